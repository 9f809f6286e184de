/- package power: a power of the table. -/
import Derived.Test.YtalglldkjbinbaaGreatDoorPowB
import Derived.Test.YtalglldkjbinbaaGreatDoorBaseC
import Derived.Test.YtalglldkjbinbaaGreatDoorBaseB
import Derived.Deep.QuietTactic
import Derived.BigQuiet
import Derived.Laws.EntriesVeiled
namespace Go.Proofs.YtalglldkjbinbaaGreatDoor
open Go.ChangeShapes Go.WideShapes Go.ChangeAt Go.RowKit
open Na Ar
set_option linter.unusedVariables false
/-- a struct of four cells, one of two, each in its block -/
def F4 (w : World) (g : Nat) (t : TypeId) (x y z u : Value) : Prop := w.heap[g]? = some (.cells #[x, y, z, u] t (0, 0))
def F2 (w : World) (g : Nat) (t : TypeId) (x y : Value) : Prop := w.heap[g]? = some (.cells #[x, y] t (0, 0))
theorem set_block8 {w : World} {g i : Nat} {c : Array Value} {t : TypeId} {f : Nat × Nat} {v : Value} (h : w.heap[g]? = some (.cells c t f)) : (w.setCell ⟨g, i, none⟩ v).heap[g]? = some (.cells (c.setIfInBounds i v) t f) := by
  simp [World.setCell, Array.getElem?_modify, h]
section
variable {w w' : World} {g : Nat} {t : TypeId} {x y z u : Value}
theorem F4.lt (h : F4 w g t x y z u) : g < w.heap.size := by
  by_cases hlt : g < w.heap.size
  · exact hlt
  · unfold F4 at h; simp [Array.getElem?_eq_none (Nat.le_of_not_lt hlt)] at h
theorem F2.lt (h : F2 w g t x y) : g < w.heap.size := by
  by_cases hlt : g < w.heap.size
  · exact hlt
  · unfold F2 at h; simp [Array.getElem?_eq_none (Nat.le_of_not_lt hlt)] at h
theorem F4.later (h : F4 w g t x y z u) (hb : Below w.heap.size w w') : F4 w' g t x y z u := by
  have := h.lt
  unfold F4
  rw [hb.block g this]; exact h
theorem F2.later (h : F2 w g t x y) (hb : Below w.heap.size w w') : F2 w' g t x y := by
  have := h.lt
  unfold F2
  rw [hb.block g this]; exact h
theorem F4.cells (h : F4 w g t x y z u) : w.cell? ⟨g, 0, none⟩ = some x ∧ w.cell? ⟨g, 1, none⟩ = some y ∧ w.cell? ⟨g, 2, none⟩ = some z ∧ w.cell? ⟨g, 3, none⟩ = some u := by
  unfold F4 at h
  simp [World.cell?, h]
theorem F2.cells (h : F2 w g t x y) : w.cell? ⟨g, 0, none⟩ = some x ∧ w.cell? ⟨g, 1, none⟩ = some y := by
  unfold F2 at h
  simp [World.cell?, h]
theorem F4.frozen (h : F4 w g t x y z u) : w.frozen? ⟨g, 0, none⟩ = false ∧ w.frozen? ⟨g, 1, none⟩ = false ∧ w.frozen? ⟨g, 2, none⟩ = false ∧ w.frozen? ⟨g, 3, none⟩ = false := by
  unfold F4 at h
  simp [World.frozen?, h]
theorem F2.frozen (h : F2 w g t x y) : w.frozen? ⟨g, 0, none⟩ = false ∧ w.frozen? ⟨g, 1, none⟩ = false := by
  unfold F2 at h
  simp [World.frozen?, h]
theorem f4_new (w : World) (x y z u : Value) (t : TypeId) : F4 (w.alloc (.cells #[x, y, z, u] t)) w.heap.size t x y z u := heap_alloc_new _ _
theorem f2_new (w : World) (x y : Value) (t : TypeId) : F2 (w.alloc (.cells #[x, y] t)) w.heap.size t x y := heap_alloc_new _ _
theorem F4.set (h : F4 w g t x y z u) (x' y' z' u' : Value) : F4 ((((w.setCell ⟨g, 0, none⟩ x').setCell ⟨g, 1, none⟩ y').setCell ⟨g, 2, none⟩ z').setCell ⟨g, 3, none⟩ u') g t x' y' z' u' :=
  set_block8 (set_block8 (set_block8 (set_block8 h)))
theorem F2.set (h : F2 w g t x y) (x' y' : Value) : F2 ((w.setCell ⟨g, 0, none⟩ x').setCell ⟨g, 1, none⟩ y') g t x' y' := set_block8 (set_block8 h)
theorem below_set4 {B : Nat} {a : World} (h : Below B a w) (hg : B ≤ g) (hs : B ≤ a.heap.size) (x' y' z' u' : Value) : Below B a ((((w.setCell ⟨g, 0, none⟩ x').setCell ⟨g, 1, none⟩ y').setCell ⟨g, 2, none⟩ z').setCell ⟨g, 3, none⟩ u') :=
  below_inn h (((((In.refl g (g + 1) w).set1 0 _).set1 1 _).set1 2 _).set1 3 _) hg hs
theorem below_set2 {B : Nat} {a : World} (h : Below B a w) (hg : B ≤ g) (hs : B ≤ a.heap.size) (x' y' : Value) : Below B a ((w.setCell ⟨g, 0, none⟩ x').setCell ⟨g, 1, none⟩ y') :=
  below_inn h (((In.refl g (g + 1) w).set1 0 _).set1 1 _) hg hs
end
theorem lt_pair {A : Int} (h : 0 ≤ A ∧ A < 340282366920938463463374607431768211456) : Lt A 2 := by
  have e : (18446744073709551616 : Int) ^ 2 = 340282366920938463463374607431768211456 := by decide
  exact ⟨h.1, by rw [e]; exact h.2⟩
/-- a power as the program keeps it -/
def frV (hi lo x : Int) (b : Bool) : Value := .agg #[.int .u64 hi, .int .u64 lo, .int .i64 x, .bool b]
set_option maxHeartbeats 1600000 in
set_option maxRecDepth 100000 in
theorem array8_any {a : Option Addr} {c : Nat} {lo hi : Int} {w : World} (h : RowC w a 2 c [lo, hi]) :
    Calls Tryz.prog 143 #[.slice a 2 c] w fun e w' => e = .returned (.agg #[.int .u64 hi, .int .u64 lo]) ∧ Below w.heap.size w w' := by
  obtain ⟨b, off, rfl, hlt, c0, c1⟩ : ∃ b off, a = some ⟨b, off, none⟩ ∧ b < w.heap.size ∧ w.cell? ⟨b, off, none⟩ = some (.int .u64 lo) ∧ w.cell? ⟨b, off + 1, none⟩ = some (.int .u64 hi) := by
    rcases h.1.2 with h' | ⟨b, off, h1, h2, h3⟩
    · omega
    · exact ⟨b, off, h1, h2, by have := h3 0 (by omega); simpa using this, by have := h3 1 (by omega); simpa using this⟩
  have hb0 := alloc_below (w := w) (.cells #[.int .u64 0, .int .u64 0] 128)
  have t0 := f2_new w (.int .u64 0) (.int .u64 0) 128
  have n1 : ¬ b = w.heap.size := by omega
  have n2 : ¬ w.heap.size = b := by omega
  go_enter Tryz.func143, Tryz.ntmps143
  go_wp2
  go_region
  all_goals (try go_wp2)
  all_goals (refine bodyPost_ret (v := .agg #[.int .u64 hi, .int .u64 lo]) (by simp [results, Tryz.results143, go_sem]) rfl ?_)
  all_goals exact ⟨rfl, below_drewN (alloc_below (w := w) (.cells #[.int .u64 hi, .int .u64 lo] 128)) 1⟩
set_option maxHeartbeats 1600000 in
set_option maxRecDepth 100000 in
theorem cut8_less {a : Option Addr} {n c k : Nat} {xs : List Int} {w : World} (hr : RowC w a n c xs) (hn : Nm xs (5 ^ k)) (hk : k ≤ 55) :
    Calls Tryz.prog 142 #[.slice a n c] w fun e w' => e = .returned (frV (pV k / 18446744073709551616) (pV k % 18446744073709551616) (pX k) true) ∧ Below w.heap.size w w' := by
  obtain ⟨pv, px, hb8⟩ := pV_less hk
  have hT : inT (k : Int) := ⟨by omega, by omega⟩
  have rg := pV_rng hT
  have pw := pV_words hT
  have lt2 : Lt (5 ^ k * 2 ^ (128 - bN k) : Int) 2 := lt_pair (by rw [← pv]; exact ⟨by omega, rg.2.1⟩)
  have hbc := fun w' (hb : Below w.heap.size w w') => natBits_any (hr.later hb) hn.ws (by have := hn.len; have := hr.1.1; omega)
  rw [hn.num, bits_five] at hbc
  have hsc := fun w' (hb : Below w.heap.size w w') => shlQ (hr.later hb) hn (128 - bN k) (by omega) lt2 (by omega)
  rw [← pv, show ((128 - bN k : Nat) : Int) = -((bN k : Int) - 128) by omega] at hsc
  obtain ⟨B, hB⟩ : ∃ B : Int, B = (bN k : Int) := ⟨_, rfl⟩
  rw [← hB] at hbc hsc px
  have hB0 : 0 ≤ B := by omega
  have hB1 : B ≤ 128 := by omega
  have HX : Hid (pX (k : Int) = B - 128) := px
  have HW := pw.1
  have HV : Hid (words (pV (k : Int)) = [pV (k : Int) % 18446744073709551616, pV (k : Int) / 18446744073709551616]) := HW
  have d1 : decide (B - 128 ≤ 0) = true := by simp; omega
  clear pv px hb8 rg pw lt2 hB HW
  generalize pV (k : Int) = V at *
  have t0 := f4_new w (.int .u64 0) (.int .u64 0) (.int .i64 0) (.bool false) 143
  have hb0 := alloc_below (w := w) (.cells #[.int .u64 0, .int .u64 0, .int .i64 0, .bool false] 143)
  obtain ⟨w0, hw0⟩ : ∃ w0, w0 = w.alloc (.cells #[.int .u64 0, .int .u64 0, .int .i64 0, .bool false] 143) := ⟨_, rfl⟩
  rw [← hw0] at t0 hb0
  obtain ⟨g, hg⟩ : ∃ g, g = w.heap.size := ⟨_, rfl⟩
  have HG : Hid (w.heap.size = g) := hg.symm
  rw [← hg] at t0
  have hbc0 := hbc w0 hb0
  go_enter Tryz.func142, Tryz.ntmps142
  go_wp2_with fail
  rw [← hw0, ← hg]
  clear hw0 hg hbc
  refine hbc0.mono ?_
  rintro e w1 ⟨rfl, hb⟩
  have hB := hb0.trans (hb.mono hb0.size)
  have t1 := t0.later hb
  have hs1 := hsc w1 hB
  clear hb0 hb t0 hbc0 hsc
  go_wp2_with fail
  refine hs1.mono ?_
  rintro e w2 ⟨xa, xn, xc, xl, rfl, rx, nx, EX, hb⟩
  have hB2 := hB.trans (hb.mono hB.size)
  have t2 := t1.later hb
  rw [EX.out, HV.out] at rx
  obtain rfl : 2 = xn := rx.1.1
  have ha := array8_any rx
  clear hs1 hB t1 hb EX nx
  go_wp2_with fail
  refine ha.mono ?_
  rintro e w3 ⟨rfl, hb⟩
  have hB3 := hB2.trans (hb.mono hB2.size)
  have t3 := t2.later hb
  obtain ⟨x0, x1, x2, x3⟩ := t3.cells
  obtain ⟨z0, z1, z2, z3⟩ := t3.frozen
  clear ha hB2 t2 hb rx
  go_wp2
  obtain ⟨j0, j1, j2, j3⟩ := (t3.set (.int .u64 (V / 18446744073709551616)) (.int .u64 (V % 18446744073709551616)) (.int .i64 (B - 128)) (.bool true)).cells
  refine bodyPost_ret (v := frV (V / 18446744073709551616) (V % 18446744073709551616) (B - 128) true) (by simp [results, Tryz.results142, go_sem, frV, j0, j1, j2, j3]) rfl ?_
  exact ⟨by rw [HX.out], below_set4 hB3 (by rw [HG.out]; exact Nat.le_refl _) (Nat.le_refl _) _ _ _ _⟩
set_option maxHeartbeats 1600000 in
set_option maxRecDepth 100000 in
theorem cut8_more {a : Option Addr} {n c k : Nat} {xs : List Int} {w : World} (hr : RowC w a n c xs) (hn : Nm xs (5 ^ k)) (h1 : 55 < k) (hk : k ≤ 347) :
    Calls Tryz.prog 142 #[.slice a n c] w fun e w' => e = .returned (frV (pV k / 18446744073709551616) (pV k % 18446744073709551616) (pX k) false) ∧ Below w.heap.size w w' := by
  obtain ⟨pv, px, hb8⟩ := pV_more hk h1
  have hb9 := (bN_pos hk).1
  have hT : inT (k : Int) := ⟨by omega, by omega⟩
  have pw := pV_words hT
  have l5 := five_lt8 (n := k) (by omega)
  have hbc := fun w' (hb : Below w.heap.size w w') => natBits_any (hr.later hb) hn.ws (by have := hn.len; have := hr.1.1; omega)
  rw [hn.num, bits_five] at hbc
  have hsc := fun w' (hb : Below w.heap.size w w') => shrQ (hr.later hb) hn (bN k - 128) (by omega) (l5.mono (show 13 ≤ 4096 by omega)) (Nat.le_refl _) (S := decide ((5 : Int) ^ k % 2 ^ (bN k - 128) ≠ 0)) rfl
  generalize decide ((5 : Int) ^ k % 2 ^ (bN k - 128) ≠ 0) = S at hsc
  rw [← pv, show ((bN k - 128 : Nat) : Int) = (bN k : Int) - 128 by omega] at hsc
  obtain ⟨B, hB⟩ : ∃ B : Int, B = (bN k : Int) := ⟨_, rfl⟩
  rw [← hB] at hbc hsc px
  have hB0 : 128 < B := by omega
  have hB1 : B ≤ 900 := by omega
  have HX : Hid (pX (k : Int) = B - 128) := px
  have HW := pw.1
  have HV : Hid (words (pV (k : Int)) = [pV (k : Int) % 18446744073709551616, pV (k : Int) / 18446744073709551616]) := HW
  have d1 : decide (B - 128 ≤ 0) = false := by simp; omega
  clear pv px hb8 hb9 pw l5 hB HW
  generalize pV (k : Int) = V at *
  have t0 := f4_new w (.int .u64 0) (.int .u64 0) (.int .i64 0) (.bool false) 143
  have hb0 := alloc_below (w := w) (.cells #[.int .u64 0, .int .u64 0, .int .i64 0, .bool false] 143)
  obtain ⟨w0, hw0⟩ : ∃ w0, w0 = w.alloc (.cells #[.int .u64 0, .int .u64 0, .int .i64 0, .bool false] 143) := ⟨_, rfl⟩
  rw [← hw0] at t0 hb0
  obtain ⟨g, hg⟩ : ∃ g, g = w.heap.size := ⟨_, rfl⟩
  have HG : Hid (w.heap.size = g) := hg.symm
  rw [← hg] at t0
  have hbc0 := hbc w0 hb0
  go_enter Tryz.func142, Tryz.ntmps142
  go_wp2_with fail
  rw [← hw0, ← hg]
  clear hw0 hg hbc
  refine hbc0.mono ?_
  rintro e w1 ⟨rfl, hb⟩
  have hB := hb0.trans (hb.mono hb0.size)
  have t1 := t0.later hb
  have hs1 := hsc w1 hB
  clear hb0 hb t0 hbc0 hsc
  go_wp2_with fail
  refine hs1.mono ?_
  rintro e w2 ⟨xa, xn, xc, xl, rfl, rx, nx, EX, hb⟩
  have hB2 := hB.trans (hb.mono hB.size)
  have t2 := t1.later hb
  rw [EX.out, HV.out] at rx
  obtain rfl : 2 = xn := rx.1.1
  have ha := array8_any rx
  clear hs1 hB t1 hb EX nx
  go_wp2_with fail
  refine ha.mono ?_
  rintro e w3 ⟨rfl, hb⟩
  have hB3 := hB2.trans (hb.mono hB2.size)
  have t3 := t2.later hb
  obtain ⟨x0, x1, x2, x3⟩ := t3.cells
  obtain ⟨z0, z1, z2, z3⟩ := t3.frozen
  clear ha hB2 t2 hb rx
  go_wp2
  obtain ⟨j0, j1, j2, j3⟩ := (t3.set (.int .u64 (V / 18446744073709551616)) (.int .u64 (V % 18446744073709551616)) (.int .i64 (B - 128)) (.bool false)).cells
  refine bodyPost_ret (v := frV (V / 18446744073709551616) (V % 18446744073709551616) (B - 128) false) (by simp [results, Tryz.results142, go_sem, frV, j0, j1, j2, j3]) rfl ?_
  exact ⟨by rw [HX.out], below_set4 hB3 (by rw [HG.out]; exact Nat.le_refl _) (Nat.le_refl _) _ _ _ _⟩
set_option maxHeartbeats 1600000 in
set_option maxRecDepth 100000 in
theorem divided8_any {a : Option Addr} {n c k : Nat} {xs : List Int} {w : World} (hr : RowC w a n c xs) (hn : Nm xs (5 ^ k)) (hlen : n ≤ 3800000) (h1 : 1 ≤ k) (hk : k ≤ 348) :
    Calls Tryz.prog 141 #[.slice a n c] w fun e w' => e = .returned (frV (pV (-(k : Int)) / 18446744073709551616) (pV (-(k : Int)) % 18446744073709551616) (pX (-(k : Int))) false) ∧ Below w.heap.size w w' := by
  obtain ⟨pv, px⟩ := pV_under hk h1
  have hb9 := bN_neg hk h1
  have hT : inT (-(k : Int)) := ⟨by omega, by omega⟩
  have pw := pV_words hT
  have hbc := fun w' (hb : Below w.heap.size w w') => natBits_any (hr.later hb) hn.ws (by have := hn.len; have := hr.1.1; omega)
  rw [hn.num, bits_five] at hbc
  have p5 : (0 : Int) < 5 ^ k := Int.pow_pos (by omega)
  have hfr := fun w' => natFrom_any (v := 1) (by omega) w'
  obtain ⟨B, hB⟩ : ∃ B : Int, B = (bN k : Int) := ⟨_, rfl⟩
  rw [← hB] at hbc px
  have hB0 : 0 ≤ B := by omega
  have hB1 : B ≤ 850 := by omega
  have HB : Hid (B = (bN k : Int)) := hB
  have HX : Hid (pX (-(k : Int)) = -(B + 127)) := px
  have HW := pw.1
  have HV : Hid (words (pV (-(k : Int))) = [pV (-(k : Int)) % 18446744073709551616, pV (-(k : Int)) / 18446744073709551616]) := HW
  have HP : Hid (pV (-(k : Int)) = 2 ^ (bN k + 127) / 5 ^ k) := pv
  clear pv px pw hB HW
  generalize pV (-(k : Int)) = V at *
  generalize pX (-(k : Int)) = X at *
  have t0 := f4_new w (.int .u64 0) (.int .u64 0) (.int .i64 0) (.bool false) 143
  have hb0 := alloc_below (w := w) (.cells #[.int .u64 0, .int .u64 0, .int .i64 0, .bool false] 143)
  obtain ⟨w0, hw0⟩ : ∃ w0, w0 = w.alloc (.cells #[.int .u64 0, .int .u64 0, .int .i64 0, .bool false] 143) := ⟨_, rfl⟩
  rw [← hw0] at t0 hb0
  obtain ⟨g, hg⟩ : ∃ g, g = w.heap.size := ⟨_, rfl⟩
  have HG : Hid (w.heap.size = g) := hg.symm
  rw [← hg] at t0
  have hbc0 := hbc w0 hb0
  go_enter Tryz.func141, Tryz.ntmps141
  go_wp2_with fail
  rw [← hw0, ← hg]
  clear hw0 hg hbc
  refine hbc0.mono ?_
  rintro e w1 ⟨rfl, hb⟩
  have hB := hb0.trans (hb.mono hb0.size)
  have t1 := t0.later hb
  clear hb0 hb t0 hbc0
  go_wp2_with fail
  refine (hfr w1).mono ?_
  rintro e w2 ⟨v, rfl, ho, hb⟩
  have hB2 := hB.trans (hb.mono hB.size)
  have t2 := t1.later hb
  obtain ⟨oa, on, oc, ol, rfl, ro, no, _⟩ := ho.opens lt_one (by omega)
  have lt2 := (lt_one.pow2 (t := bN k + 127)).mono (show 1 + ((bN k + 127) / 64 + 1) ≤ 30 by omega)
  have hs1 := shlQ ro no (bN k + 127) (by omega) lt2 (by omega)
  rw [show ((bN k + 127 : Nat) : Int) = B + 128 - 1 by rw [HB.out]; omega] at hs1
  clear hB t1 hb ho hfr
  go_wp2_with fail
  refine hs1.mono ?_
  rintro e w3 ⟨xa, xn, xc, xl, rfl, rx, nx, EX, hb⟩
  have hB3 := hB2.trans (hb.mono hB2.size)
  have t3 := t2.later hb
  have hxl : xn ≤ 3800000 := by
    have := lt2.len
    rw [← EX.out, rx.1.1] at this
    omega
  have hd := divMod_any rx (hr.later hB3) nx.ws hn.ws hxl hlen (by rw [hn.num]; exact p5)
  rw [nx.num, hn.num, Int.one_mul, ← HP.out, HV.out] at hd
  clear hs1 hB2 t2 hb EX ro no
  go_wp2_with fail
  refine hd.mono ?_
  rintro e w4 ⟨v1, v2, rfl, o1, o2, hb, _⟩
  have hB4 := hB3.trans (hb.mono hB3.size)
  have t4 := t3.later hb
  obtain ⟨qa, qc, rfl, rq⟩ := o1.readsC
  have ha := array8_any (show RowC w4 qa 2 qc _ from rq)
  clear hd hB3 t3 hb o1 o2 rx nx
  go_wp2_with fail
  refine ha.mono ?_
  rintro e w5 ⟨rfl, hb⟩
  have hB5 := hB4.trans (hb.mono hB4.size)
  have t5 := t4.later hb
  obtain ⟨x0, x1, x2, x3⟩ := t5.cells
  obtain ⟨z0, z1, z2, z3⟩ := t5.frozen
  clear ha hB4 t4 hb rq
  go_wp2
  obtain ⟨j0, j1, j2, j3⟩ := (t5.set (.int .u64 (V / 18446744073709551616)) (.int .u64 (V % 18446744073709551616)) (.int .i64 (-(B + 128 - 1))) (.bool false)).cells
  refine bodyPost_ret (v := frV (V / 18446744073709551616) (V % 18446744073709551616) (-(B + 128 - 1)) false) (by simp [results, Tryz.results141, go_sem, frV, j0, j1, j2, j3]) rfl ?_
  exact ⟨by rw [HX.out, show -(B + 128 - 1) = -(B + 127) by omega], below_set4 hB5 (by rw [HG.out]; exact Nat.le_refl _) (Nat.le_refl _) _ _ _ _⟩
theorem five8_len {k : Nat} {K : Int} (hK : K = k) (h : k ≤ 348) (w : World) :
    Calls Tryz.prog 52 #[.int .i64 K] w fun e w' => ∃ a l c ls, e = .returned (.tuple #[.slice a l c, .int .i64 0]) ∧ RowC w' a l c ls ∧ (Nm ls (5 ^ k) ∧ l ≤ 13) ∧ Below w.heap.size w w' := by
  subst hK
  have f := five_any (k : Int) (by omega) (by omega) w
  have E1 : pwE 112899 (k : Int) = 0 := by unfold pwE; rw [if_neg (by omega), if_neg (by omega)]
  have E2 : pwL 5 112899 (k : Int) = words (5 ^ k) := by unfold pwL; rw [if_neg (by omega), if_neg (by omega), Int.toNat_natCast]
  rw [E1, E2] at f
  refine f.mono ?_
  rintro e w' ⟨v, rfl, ho, hb⟩
  have hl := (five_lt8 h).len
  obtain ⟨a, l, c, ls, rfl, hr, hn, hw⟩ := ho.opens (five_lt8 h) (by omega)
  rw [← hw.out, hr.1.1] at hl
  exact ⟨a, l, c, ls, rfl, hr, ⟨hn, hl⟩, hb⟩
/-- what is outside the table -/
theorem outside8_yes {e : Int} (h : ¬ inT e) (w : World) : Calls Tryz.prog 140 #[.int .i64 e] w fun r w' => r = .returned (.bool true) ∧ w = w' := by
  unfold inT at h
  by_cases h0 : e < -348
  · have d1 : decide (e < -348) = true := by simp; omega
    go_enter Tryz.func140, Tryz.ntmps140
    go_wp2
    go_ret
    exact ⟨rfl, rfl⟩
  · have d1 : decide (e < -348) = false := by simp; omega
    have d2 : decide (e > 347) = true := by simp; omega
    have d3 : decide (347 < e) = true := by simp; omega
    go_enter Tryz.func140, Tryz.ntmps140
    go_wp2
    go_ret
    exact ⟨rfl, rfl⟩
theorem outside8_no {e : Int} (h : inT e) (w : World) : Calls Tryz.prog 140 #[.int .i64 e] w fun r w' => r = .returned (.bool false) ∧ w = w' := by
  unfold inT at h
  have d1 : decide (e < -348) = false := by simp; omega
  have d2 : decide (e > 347) = false := by simp; omega
  have d3 : decide (347 < e) = false := by simp; omega
  go_enter Tryz.func140, Tryz.ntmps140
  go_wp2
  go_ret
  exact ⟨rfl, rfl⟩
set_option maxHeartbeats 1600000 in
set_option maxRecDepth 100000 in
theorem reckon8_out {e : Int} (h : ¬ inT e) (w : World) :
    Calls Tryz.prog 129 #[.int .i64 e] w fun r w' => r = .returned (.tuple #[frV 0 0 0 false, .int .i64 80]) ∧ Below w.heap.size w w' := by
  have ho := fun w => outside8_yes h w
  have hb0 := alloc_below (w := w) (.cells #[.int .u64 0, .int .u64 0, .int .i64 0, .bool false] 143)
  go_enter Tryz.func129, Tryz.ntmps129
  go_wp2_with fail
  refine (ho _).mono ?_
  rintro r w1 ⟨rfl, rfl⟩
  go_wp2
  refine bodyPost_ret (v := .tuple #[frV 0 0 0 false, .int .i64 80]) (by simp [results, Tryz.results129, go_sem, frV]) rfl ?_
  exact ⟨rfl, hb0⟩
set_option maxHeartbeats 1600000 in
set_option maxRecDepth 100000 in
theorem reckon8_neg {e : Int} (h : inT e) (he : e < 0) (w : World) :
    Calls Tryz.prog 129 #[.int .i64 e] w fun r w' => r = .returned (.tuple #[frV (pV e / 18446744073709551616) (pV e % 18446744073709551616) (pX e) (pW e), .int .i64 0]) ∧ Below w.heap.size w w' := by
  have ho := fun w => outside8_no h w
  obtain ⟨k, hk⟩ : ∃ k : Nat, e = -(k : Int) := ⟨(-e).toNat, by omega⟩
  have HT := h
  unfold inT at h
  have pw : Hid (pW e = false) := by show _ = _; rw [pW_is e HT]; simp; omega
  have hf := fun w => five8_len (k := k) (K := -e) (by omega) (by omega) w
  have l5 := five_lt8 (n := k) (by omega)
  have hk0 : 1 ≤ k := by omega
  have hk9 : k ≤ 348 := by omega
  have d1 : decide (e < 0) = true := by simp; omega
  have mx : max e (-e) = -e := by omega
  have t0 := f4_new w (.int .u64 0) (.int .u64 0) (.int .i64 0) (.bool false) 143
  have hb0 := alloc_below (w := w) (.cells #[.int .u64 0, .int .u64 0, .int .i64 0, .bool false] 143)
  obtain ⟨g, hg⟩ : ∃ g, g = w.heap.size := ⟨_, rfl⟩
  have HG : Hid (w.heap.size = g) := hg.symm
  rw [← hg] at t0
  have HK : Hid (e = -(k : Int)) := hk
  clear hk HT
  go_enter Tryz.func129, Tryz.ntmps129
  go_wp2_with fail
  rw [← hg]
  generalize w.alloc (.cells #[.int .u64 0, .int .u64 0, .int .i64 0, .bool false] 143) = w0 at *
  clear hg
  refine (ho _).mono ?_
  rintro r w1 ⟨rfl, rfl⟩
  have hb1 := alloc_below (w := w0) (.cells #[.func (.func 141) #[] #[], .func (.func 142) #[] #[]] 155)
  have s1 := f2_new w0 (.func (.func 141) #[] #[]) (.func (.func 142) #[] #[]) 155
  have t1 := t0.later hb1
  have hB1 := hb0.trans (hb1.mono hb0.size)
  have gh := t0.lt
  clear ho t0 hb0 hb1
  go_wp2_with fail
  obtain ⟨q, hq⟩ : ∃ q, q = w0.heap.size := ⟨_, rfl⟩
  rw [← hq] at s1 gh
  rw [← hq]
  generalize w0.alloc (.cells #[.func (.func 141) #[] #[], .func (.func 142) #[] #[]] 155) = w1 at *
  clear hq
  refine (hf w1).mono ?_
  rintro r w2 ⟨fa, fn, fc, fs, rfl, rf, ⟨nf, lf⟩, hb⟩
  have s2 := s1.later hb
  have t2 := t1.later hb
  have hB2 := hB1.trans (hb.mono hB1.size)
  obtain ⟨y0, y1⟩ := s2.cells
  have hc := divided8_any rf nf (by omega) hk0 hk9
  rw [← HK.out] at hc
  clear hf hB1 hb s1 t1 s2
  go_wp2_with fail
  refine hc.mono ?_
  rintro r w3 ⟨rfl, hb⟩
  have hB3 := hB2.trans (hb.mono hB2.size)
  have t3 := t2.later hb
  obtain ⟨x0, x1, x2, x3⟩ := t3.cells
  obtain ⟨z0, z1, z2, z3⟩ := t3.frozen
  clear hc hB2 hb t2 y0 y1 rf nf
  unfold frV
  go_wp2
  obtain ⟨j0, j1, j2, j3⟩ := (t3.set (.int .u64 (pV e / 18446744073709551616)) (.int .u64 (pV e % 18446744073709551616)) (.int .i64 (pX e)) (.bool false)).cells
  refine bodyPost_ret (v := .tuple #[.agg #[.int .u64 (pV e / 18446744073709551616), .int .u64 (pV e % 18446744073709551616), .int .i64 (pX e), .bool false], .int .i64 0]) (by simp [results, Tryz.results129, go_sem, j0, j1, j2, j3]) rfl ?_
  exact ⟨by rw [pw.out]; rfl, below_set4 hB3 (by rw [HG.out]; exact Nat.le_refl _) (Nat.le_refl _) _ _ _ _⟩
set_option maxHeartbeats 1600000 in
set_option maxRecDepth 100000 in
theorem reckon8_less {e : Int} (h : inT e) (he : 0 ≤ e ∧ e ≤ 55) (w : World) :
    Calls Tryz.prog 129 #[.int .i64 e] w fun r w' => r = .returned (.tuple #[frV (pV e / 18446744073709551616) (pV e % 18446744073709551616) (pX e) (pW e), .int .i64 0]) ∧ Below w.heap.size w w' := by
  have ho := fun w => outside8_no h w
  obtain ⟨k, hk⟩ : ∃ k : Nat, e = (k : Int) := ⟨(e).toNat, by omega⟩
  have HT := h
  unfold inT at h
  have pw : Hid (pW e = true) := by show _ = _; rw [pW_is e HT]; simp; omega
  have hf := fun w => five8_len (k := k) (K := e) (by omega) (by omega) w
  have l5 := five_lt8 (n := k) (by omega)
  have hk0 : 0 ≤ k := by omega
  have hk9 : k ≤ 55 := by omega
  have d1 : decide (e < 0) = false := by simp; omega
  have mx : max e (-e) = e := by omega
  have t0 := f4_new w (.int .u64 0) (.int .u64 0) (.int .i64 0) (.bool false) 143
  have hb0 := alloc_below (w := w) (.cells #[.int .u64 0, .int .u64 0, .int .i64 0, .bool false] 143)
  obtain ⟨g, hg⟩ : ∃ g, g = w.heap.size := ⟨_, rfl⟩
  have HG : Hid (w.heap.size = g) := hg.symm
  rw [← hg] at t0
  have HK : Hid (e = (k : Int)) := hk
  clear hk HT
  go_enter Tryz.func129, Tryz.ntmps129
  go_wp2_with fail
  rw [← hg]
  generalize w.alloc (.cells #[.int .u64 0, .int .u64 0, .int .i64 0, .bool false] 143) = w0 at *
  clear hg
  refine (ho _).mono ?_
  rintro r w1 ⟨rfl, rfl⟩
  have hb1 := alloc_below (w := w0) (.cells #[.func (.func 141) #[] #[], .func (.func 142) #[] #[]] 155)
  have s1 := f2_new w0 (.func (.func 141) #[] #[]) (.func (.func 142) #[] #[]) 155
  have t1 := t0.later hb1
  have hB1 := hb0.trans (hb1.mono hb0.size)
  have gh := t0.lt
  clear ho t0 hb0 hb1
  go_wp2_with fail
  obtain ⟨q, hq⟩ : ∃ q, q = w0.heap.size := ⟨_, rfl⟩
  rw [← hq] at s1 gh
  rw [← hq]
  generalize w0.alloc (.cells #[.func (.func 141) #[] #[], .func (.func 142) #[] #[]] 155) = w1 at *
  clear hq
  refine (hf w1).mono ?_
  rintro r w2 ⟨fa, fn, fc, fs, rfl, rf, ⟨nf, lf⟩, hb⟩
  have s2 := s1.later hb
  have t2 := t1.later hb
  have hB2 := hB1.trans (hb.mono hB1.size)
  obtain ⟨y0, y1⟩ := s2.cells
  have hc := cut8_less rf nf hk9
  rw [← HK.out] at hc
  clear hf hB1 hb s1 t1 s2
  go_wp2_with fail
  refine hc.mono ?_
  rintro r w3 ⟨rfl, hb⟩
  have hB3 := hB2.trans (hb.mono hB2.size)
  have t3 := t2.later hb
  obtain ⟨x0, x1, x2, x3⟩ := t3.cells
  obtain ⟨z0, z1, z2, z3⟩ := t3.frozen
  clear hc hB2 hb t2 y0 y1 rf nf
  unfold frV
  go_wp2
  obtain ⟨j0, j1, j2, j3⟩ := (t3.set (.int .u64 (pV e / 18446744073709551616)) (.int .u64 (pV e % 18446744073709551616)) (.int .i64 (pX e)) (.bool true)).cells
  refine bodyPost_ret (v := .tuple #[.agg #[.int .u64 (pV e / 18446744073709551616), .int .u64 (pV e % 18446744073709551616), .int .i64 (pX e), .bool true], .int .i64 0]) (by simp [results, Tryz.results129, go_sem, j0, j1, j2, j3]) rfl ?_
  exact ⟨by rw [pw.out]; rfl, below_set4 hB3 (by rw [HG.out]; exact Nat.le_refl _) (Nat.le_refl _) _ _ _ _⟩
set_option maxHeartbeats 1600000 in
set_option maxRecDepth 100000 in
theorem reckon8_more {e : Int} (h : inT e) (he : 55 < e) (w : World) :
    Calls Tryz.prog 129 #[.int .i64 e] w fun r w' => r = .returned (.tuple #[frV (pV e / 18446744073709551616) (pV e % 18446744073709551616) (pX e) (pW e), .int .i64 0]) ∧ Below w.heap.size w w' := by
  have ho := fun w => outside8_no h w
  obtain ⟨k, hk⟩ : ∃ k : Nat, e = (k : Int) := ⟨(e).toNat, by omega⟩
  have HT := h
  unfold inT at h
  have pw : Hid (pW e = false) := by show _ = _; rw [pW_is e HT]; simp; omega
  have hf := fun w => five8_len (k := k) (K := e) (by omega) (by omega) w
  have l5 := five_lt8 (n := k) (by omega)
  have hk0 : 0 ≤ k := by omega
  have hk9 : k ≤ 347 := by omega
  have hk1 : 55 < k := by omega
  have d1 : decide (e < 0) = false := by simp; omega
  have mx : max e (-e) = e := by omega
  have t0 := f4_new w (.int .u64 0) (.int .u64 0) (.int .i64 0) (.bool false) 143
  have hb0 := alloc_below (w := w) (.cells #[.int .u64 0, .int .u64 0, .int .i64 0, .bool false] 143)
  obtain ⟨g, hg⟩ : ∃ g, g = w.heap.size := ⟨_, rfl⟩
  have HG : Hid (w.heap.size = g) := hg.symm
  rw [← hg] at t0
  have HK : Hid (e = (k : Int)) := hk
  clear hk HT
  go_enter Tryz.func129, Tryz.ntmps129
  go_wp2_with fail
  rw [← hg]
  generalize w.alloc (.cells #[.int .u64 0, .int .u64 0, .int .i64 0, .bool false] 143) = w0 at *
  clear hg
  refine (ho _).mono ?_
  rintro r w1 ⟨rfl, rfl⟩
  have hb1 := alloc_below (w := w0) (.cells #[.func (.func 141) #[] #[], .func (.func 142) #[] #[]] 155)
  have s1 := f2_new w0 (.func (.func 141) #[] #[]) (.func (.func 142) #[] #[]) 155
  have t1 := t0.later hb1
  have hB1 := hb0.trans (hb1.mono hb0.size)
  have gh := t0.lt
  clear ho t0 hb0 hb1
  go_wp2_with fail
  obtain ⟨q, hq⟩ : ∃ q, q = w0.heap.size := ⟨_, rfl⟩
  rw [← hq] at s1 gh
  rw [← hq]
  generalize w0.alloc (.cells #[.func (.func 141) #[] #[], .func (.func 142) #[] #[]] 155) = w1 at *
  clear hq
  refine (hf w1).mono ?_
  rintro r w2 ⟨fa, fn, fc, fs, rfl, rf, ⟨nf, lf⟩, hb⟩
  have s2 := s1.later hb
  have t2 := t1.later hb
  have hB2 := hB1.trans (hb.mono hB1.size)
  obtain ⟨y0, y1⟩ := s2.cells
  have hc := cut8_more rf nf hk1 hk9
  rw [← HK.out] at hc
  clear hf hB1 hb s1 t1 s2
  go_wp2_with fail
  refine hc.mono ?_
  rintro r w3 ⟨rfl, hb⟩
  have hB3 := hB2.trans (hb.mono hB2.size)
  have t3 := t2.later hb
  obtain ⟨x0, x1, x2, x3⟩ := t3.cells
  obtain ⟨z0, z1, z2, z3⟩ := t3.frozen
  clear hc hB2 hb t2 y0 y1 rf nf
  unfold frV
  go_wp2
  obtain ⟨j0, j1, j2, j3⟩ := (t3.set (.int .u64 (pV e / 18446744073709551616)) (.int .u64 (pV e % 18446744073709551616)) (.int .i64 (pX e)) (.bool false)).cells
  refine bodyPost_ret (v := .tuple #[.agg #[.int .u64 (pV e / 18446744073709551616), .int .u64 (pV e % 18446744073709551616), .int .i64 (pX e), .bool false], .int .i64 0]) (by simp [results, Tryz.results129, go_sem, j0, j1, j2, j3]) rfl ?_
  exact ⟨by rw [pw.out]; rfl, below_set4 hB3 (by rw [HG.out]; exact Nat.le_refl _) (Nat.le_refl _) _ _ _ _⟩
theorem reckon8_in {e : Int} (h : inT e) (w : World) :
    Calls Tryz.prog 129 #[.int .i64 e] w fun r w' => r = .returned (.tuple #[frV (pV e / 18446744073709551616) (pV e % 18446744073709551616) (pX e) (pW e), .int .i64 0]) ∧ Below w.heap.size w w' := by
  by_cases h0 : e < 0
  · exact reckon8_neg h h0 w
  · by_cases h1 : e ≤ 55
    · exact reckon8_less h ⟨by omega, h1⟩ w
    · exact reckon8_more h (by omega) w
end Go.Proofs.YtalglldkjbinbaaGreatDoor
