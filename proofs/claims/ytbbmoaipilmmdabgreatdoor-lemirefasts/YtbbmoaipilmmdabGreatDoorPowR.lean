/- the document's layer 8: frame, Five, Whole, Above, Log2, Log10. -/
import Derived.Test.YtbbmoaipilmmdabGreatDoorPowC
import Derived.Test.YtbbmoaipilmmdabGreatDoorBaseE
import Derived.Test.YtbbmoaipilmmdabGreatDoorBaseH
import Derived.Test.YtbbmoaipilmmdabGreatDoorRef3Shl
import Derived.Test.YtbbmoaipilmmdabGreatDoorRef3Sum
import Derived.Test.YtbbmoaipilmmdabGreatDoorBaseI
namespace Go.Proofs.YtbbmoaipilmmdabGreatDoor
open Go.ChangeShapes Go.WideShapes Go.ChangeAt Go.RowKit
open Na Ar
set_option linter.unusedVariables false
theorem r8in_yes {e : Int} (h : inT e) (w : World) : Calls Tryz.prog 36 #[.int .i64 e] w fun r w' => r = .returned (.bool true) ∧ w = w' := by
  unfold inT at h
  have d1 : decide (e ≥ -348) = true := by simp; omega
  have d2 : decide (-348 ≤ e) = true := by simp; omega
  have d3 : decide (e ≤ 347) = true := by simp; omega
  go_enter Tryz.func36, Tryz.ntmps36
  go_wp2
  go_ret
  exact ⟨rfl, rfl⟩
theorem r8in_no {e : Int} (h : ¬ inT e) (w : World) : Calls Tryz.prog 36 #[.int .i64 e] w fun r w' => r = .returned (.bool false) ∧ w = w' := by
  unfold inT at h
  by_cases h0 : -348 ≤ e
  · have d1 : decide (e ≥ -348) = true := by simp; omega
    have d2 : decide (-348 ≤ e) = true := by simp; omega
    have d3 : decide (e ≤ 347) = false := by simp; omega
    go_enter Tryz.func36, Tryz.ntmps36
    go_wp2
    go_ret
    exact ⟨rfl, rfl⟩
  · have d1 : decide (e ≥ -348) = false := by simp; omega
    have d2 : decide (-348 ≤ e) = false := by simp; omega
    go_enter Tryz.func36, Tryz.ntmps36
    go_wp2
    go_ret
    exact ⟨rfl, rfl⟩
theorem power8_any {k : Nat} {K : Int} (hK : K = k) (h : k ≤ 348) (w : World) :
    Calls Tryz.prog 12 #[.int .u64 5, .int .i64 K] w fun e w' => ∃ a l c ls, e = .returned (.slice a l c) ∧ RowC w' a l c ls ∧ (Nm ls (5 ^ k) ∧ l ≤ 13) ∧ Below w.heap.size w w' := by
  subst hK
  refine (power_any (b := 5) (by omega) k (by omega) w).mono ?_
  rintro e w' ⟨va, l, c, rfl, hr, hb⟩
  have hl := (five_lt8 h).len
  have := hr.1.1
  exact ⟨va, l, c, _, rfl, hr, ⟨(five_lt8 h).nm (by omega), by omega⟩, hb⟩
section
variable {w : World} {a b : Option Addr} {n m c1 c2 : Nat} {xs ys : List Int} {A B : Int}
theorem shl8R (hr : RowC w a n c1 xs) (h : Nm xs A) (hn : n ≤ 3000000) {t : Nat} {T : Int} (hT : T = t) (ht : t ≤ 4000) {k : Nat} (hL : Lt (A * 2 ^ t) k) (hk : k ≤ 4000) :
    Calls Tryz.prog 64 #[.slice a n c1, .int .i64 T] w fun e w' => ∃ a' n' c' l', e = .returned (.slice a' n' c') ∧ RowC w' a' n' c' l' ∧ (Nm l' (A * 2 ^ t) ∧ n' ≤ k ∧ Hid (l' = words (A * 2 ^ t))) ∧ Below w.heap.size w w' := by
  subst hT
  have f := ref3Shl_any (c1 := c1) hr.1 h.ws hn t (by omega)
  rw [h.num] at f
  refine f.mono ?_
  rintro e w' ⟨v, rfl, ho, hb⟩
  obtain ⟨a', n', c', l', rfl, r, nm, hw⟩ := ho.opens hL (by omega)
  have hl := hL.len
  rw [← hw.out, r.1.1] at hl
  exact ⟨a', n', c', l', rfl, r, ⟨nm, hl, hw⟩, hb⟩
theorem div8R (hr : RowC w a n c1 xs) (hr' : RowC w b m c2 ys) (h : Nm xs A) (h' : Nm ys B) (hn : n ≤ 3000000) (hm : m ≤ 3000000) (hB : 0 < B) :
    Calls Tryz.prog 65 #[.slice a n c1, .slice b m c2] w fun e w' => ∃ a1 n1 d1 a2 n2 d2, e = .returned (.tuple #[.slice a1 n1 d1, .slice a2 n2 d2, .int .i64 0]) ∧ RowC w' a1 n1 d1 (words (A / B)) ∧ Below w.heap.size w w' := by
  have f := ref3Div_any (c1 := c1) (c2 := c2) hr.1 hr'.1 h.ws h'.ws hn hm (by rw [h'.num]; exact hB)
  rw [h.num, h'.num] at f
  refine f.mono ?_
  rintro e w' ⟨a1, n1, d1, a2, n2, d2, rfl, r1, r2, hb⟩
  exact ⟨a1, n1, d1, a2, n2, d2, rfl, r1, hb⟩
theorem bits8R (hr : RowC w a n c1 xs) (h : Nm xs A) (hn : n ≤ 12000000) :
    Calls Tryz.prog 63 #[.slice a n c1] w fun e w' => e = .returned (.int .i64 (bitsN A)) ∧ w = w' := by
  have f := ref3Bits_any (cap := c1) hr.1 h.ws hn
  rw [h.num] at f
  exact f
end
def Fra (w : World) (e : Int) (r : Ending) (w' : World) : Prop := ∃ a c, r = .returned (.tuple #[.slice a 2 c, .int .i64 (pX e)]) ∧ RowC w' a 2 c [pV e % 18446744073709551616, pV e / 18446744073709551616] ∧ Below w.heap.size w w'
set_option maxHeartbeats 1600000 in
set_option maxRecDepth 100000 in
theorem frame8_less {k : Nat} (hk : k ≤ 55) (w : World) : Calls Tryz.prog 37 #[.int .i64 (k : Int)] w (Fra w (k : Int)) := by
  obtain ⟨pv, px, hb8⟩ := pV_less hk
  have hT : inT (k : Int) := ⟨by omega, by omega⟩
  have rg := pV_rng hT
  have pw := (pV_words hT).1
  have hp := fun w => power8_any (k := k) (K := (k : Int)) rfl (by omega) w
  have lt2 : Lt (5 ^ k * 2 ^ (128 - bN k) : Int) 2 := lt_pair (by rw [← pv]; exact ⟨by omega, rg.2.1⟩)
  unfold Fra
  have HX : Hid (pX (k : Int) = (bN k : Int) - 128) := px
  have hB0 : 0 ≤ (bN k : Int) := by omega
  obtain ⟨B, hB⟩ : ∃ B : Int, B = (bN k : Int) := ⟨_, rfl⟩
  have HB : Hid (B = (bN k : Int)) := hB
  rw [← hB] at HX hB0
  have hB1 : B ≤ 128 := by omega
  have d1 : decide (B - 128 ≤ 0) = true := by simp; omega
  have d2 : decide ((k : Int) ≥ 0) = true := by simp
  have d3 : decide (0 ≤ (k : Int)) = true := by simp
  clear px hB rg
  go_enter Tryz.func37, Tryz.ntmps37
  go_wp2_with fail
  refine (hp _).mono ?_
  rintro r w1 ⟨fa, fn, fc, fs, rfl, rf, ⟨nf, lf⟩, hb1⟩
  have hbc := bits8R rf nf (by omega)
  rw [bits_five, ← HB.out] at hbc
  have hsc := shl8R rf nf (by omega) (t := 128 - bN k) (T := -(B - 128)) (by rw [HB.out]; omega) (by omega) lt2 (by omega)
  rw [← pv] at hsc
  clear hp
  go_wp2_with fail
  refine hbc.mono ?_
  rintro r w2 ⟨rfl, rfl⟩
  go_wp2_with fail
  refine hsc.mono ?_
  rintro r w2 ⟨xa, xn, xc, xl, rfl, rx, ⟨nx, lx, EX⟩, hb⟩
  rw [EX.out, pw] at rx
  obtain rfl : 2 = xn := rx.1.1
  have hB2 := hb1.trans (hb.mono hb1.size)
  clear hsc hbc rf nf EX nx lx pw
  go_wp2
  go_ret2
  exact ⟨xa, xc, by rw [HX.out]; rfl, rx, hB2⟩
set_option maxHeartbeats 1600000 in
set_option maxRecDepth 100000 in
theorem frame8_more {k : Nat} (h1 : 55 < k) (hk : k ≤ 347) (w : World) : Calls Tryz.prog 37 #[.int .i64 (k : Int)] w (Fra w (k : Int)) := by
  obtain ⟨pv, px, hb8⟩ := pV_more hk h1
  have hb9 := (bN_pos hk).1
  have hT : inT (k : Int) := ⟨by omega, by omega⟩
  have pw := (pV_words hT).1
  have hp := fun w => power8_any (k := k) (K := (k : Int)) rfl (by omega) w
  have lt2 : Lt (1 * 2 ^ (bN k - 128) : Int) 30 := (lt_one.pow2 (t := bN k - 128)).mono (by omega)
  have no : Nm [1] 1 := Nm.one (by omega)
  unfold Fra
  have HX : Hid (pX (k : Int) = (bN k : Int) - 128) := px
  obtain ⟨B, hB⟩ : ∃ B : Int, B = (bN k : Int) := ⟨_, rfl⟩
  have HB : Hid (B = (bN k : Int)) := hB
  rw [← hB] at HX
  have hB0 : 128 < B := by omega
  have hB1 : B ≤ 900 := by omega
  have d1 : decide (B - 128 ≤ 0) = false := by simp; omega
  have d2 : decide ((k : Int) ≥ 0) = true := by simp
  have d3 : decide (0 ≤ (k : Int)) = true := by simp
  have p2 : (0 : Int) < 1 * 2 ^ (bN k - 128) := by rw [Int.one_mul]; exact p2pos _
  clear px hB
  go_enter Tryz.func37, Tryz.ntmps37
  go_wp2_with fail
  refine (hp _).mono ?_
  rintro r w1 ⟨fa, fn, fc, fs, rfl, rf, ⟨nf, lf⟩, hb1⟩
  have hbc := bits8R rf nf (by omega)
  rw [bits_five, ← HB.out] at hbc
  have hal := alloc_below (w := w1) (.cells #[.int .u64 1] 22)
  have ro := rowC_one w1 1 22
  have hB2 := hb1.trans (hal.mono hb1.size)
  have rf2 := rf.later hal
  have hsc := shl8R ro no (by omega) (t := bN k - 128) (T := B - 128) (by rw [HB.out]; omega) (by omega) lt2 (by omega)
  clear hp
  go_wp2_with fail
  refine hbc.mono ?_
  rintro r w2 ⟨rfl, rfl⟩
  clear hbc
  go_wp2_with fail
  generalize w1.alloc (.cells #[.int .u64 1] 22) = w2 at *
  refine hsc.mono ?_
  rintro r w3 ⟨xa, xn, xc, xl, rfl, rx, ⟨nx, lx, EX⟩, hb⟩
  have hB3 := hB2.trans (hb.mono hB2.size)
  have hd := div8R (rf2.later hb) rx nf nx (by omega) (by omega) p2
  rw [Int.one_mul, ← pv, pw] at hd
  clear hsc hal ro rf2 rf nf EX nx lx pw hb hb1 hB2
  go_wp2_with fail
  refine hd.mono ?_
  rintro r w4 ⟨ya, yn, yc, za, zn, zc, rfl, ry, hb⟩
  obtain rfl : 2 = yn := ry.1.1
  have hB4 := hB3.trans (hb.mono hB3.size)
  clear hd rx
  go_wp2
  go_ret2
  exact ⟨ya, yc, by rw [HX.out]; rfl, ry, hB4⟩
set_option maxHeartbeats 1600000 in
set_option maxRecDepth 100000 in
theorem frame8_neg {k : Nat} (h1 : 1 ≤ k) (hk : k ≤ 348) {e : Int} (he : e = -(k : Int)) (w : World) : Calls Tryz.prog 37 #[.int .i64 e] w (Fra w e) := by
  obtain ⟨pv, px⟩ := pV_under hk h1
  rw [← he] at pv px
  have hb9 := bN_neg hk h1
  have hT : inT e := ⟨by omega, by omega⟩
  have pw := (pV_words hT).1
  have hp := fun w => power8_any (k := k) (K := -e) (by omega) (by omega) w
  have lt2 : Lt (1 * 2 ^ (bN k + 127) : Int) 30 := (lt_one.pow2 (t := bN k + 127)).mono (by omega)
  have no : Nm [1] 1 := Nm.one (by omega)
  have p5 : (0 : Int) < 5 ^ k := Int.pow_pos (by omega)
  unfold Fra
  have HX : Hid (pX e = -((bN k : Int) + 127)) := px
  obtain ⟨B, hB⟩ : ∃ B : Int, B = (bN k : Int) := ⟨_, rfl⟩
  have HB : Hid (B = (bN k : Int)) := hB
  rw [← hB] at HX
  have hB0 : 0 ≤ B := by omega
  have hB1 : B ≤ 850 := by omega
  have d2 : decide (e ≥ 0) = false := by simp; omega
  have d3 : decide (0 ≤ e) = false := by simp; omega
  unfold inT at hT
  clear px hB he
  go_enter Tryz.func37, Tryz.ntmps37
  go_wp2_with fail
  refine (hp _).mono ?_
  rintro r w1 ⟨fa, fn, fc, fs, rfl, rf, ⟨nf, lf⟩, hb1⟩
  have hbc := bits8R rf nf (by omega)
  rw [bits_five, ← HB.out] at hbc
  have hal := alloc_below (w := w1) (.cells #[.int .u64 1] 22)
  have ro := rowC_one w1 1 22
  have hB2 := hb1.trans (hal.mono hb1.size)
  have rf2 := rf.later hal
  have hsc := shl8R ro no (by omega) (t := bN k + 127) (T := B + 127) (by rw [HB.out]; omega) (by omega) lt2 (by omega)
  clear hp
  go_wp2_with fail
  refine hbc.mono ?_
  rintro r w2 ⟨rfl, rfl⟩
  clear hbc
  go_wp2_with fail
  generalize w1.alloc (.cells #[.int .u64 1] 22) = w2 at *
  refine hsc.mono ?_
  rintro r w3 ⟨xa, xn, xc, xl, rfl, rx, ⟨nx, lx, EX⟩, hb⟩
  have hB3 := hB2.trans (hb.mono hB2.size)
  have hd := div8R rx (rf2.later hb) nx nf (by omega) (by omega) p5
  rw [Int.one_mul, ← pv, pw] at hd
  clear hsc hal ro rf2 rf nf EX nx lx pw hb hb1 hB2
  go_wp2_with fail
  refine hd.mono ?_
  rintro r w4 ⟨ya, yn, yc, za, zn, zc, rfl, ry, hb⟩
  obtain rfl : 2 = yn := ry.1.1
  have hB4 := hB3.trans (hb.mono hB3.size)
  clear hd rx
  go_wp2
  go_ret2
  exact ⟨ya, yc, by rw [HX.out]; rfl, ry, hB4⟩
theorem frame8_any {e : Int} (h : inT e) (w : World) : Calls Tryz.prog 37 #[.int .i64 e] w (Fra w e) := by
  have h' := h
  unfold inT at h'
  by_cases h0 : e < 0
  · exact frame8_neg (k := (-e).toNat) (by omega) (by omega) (by omega) w
  · obtain ⟨k, rfl⟩ : ∃ k : Nat, e = (k : Int) := ⟨e.toNat, by omega⟩
    by_cases h1 : k ≤ 55
    · exact frame8_less h1 w
    · exact frame8_more (by omega) (by omega) w
end Go.Proofs.YtbbmoaipilmmdabGreatDoor
