/- plumbref07: round, Quotient, Scaled. -/
import Derived.Test.YtbbmoaipilmmdabGreatDoorNearRefB
namespace Go.Proofs.YtbbmoaipilmmdabGreatDoor
open Go.ChangeShapes Go.WideShapes Go.ChangeAt Go.RowKit
open Na Ar
set_option linter.unusedVariables false
section
variable {w w' : World} {a b : Option Addr} {n m c1 c2 : Nat} {x N D : Int} {xs ys : List Int} {more neg : Bool}
set_option maxHeartbeats 3200000 in
set_option maxRecDepth 100000 in
theorem round7_any (h : Ex7 w a b n m c1 c2 x N D xs ys) {mode : Int} (m0 : 0 ≤ mode) (m1 : mode ≤ 4) :
    Calls Tryz.prog 31 #[.agg #[.slice a n c1, .slice b m c2, .int .i64 x, .bool more], .bool neg, .int .i64 mode] w fun r w' => ∃ v E, r = .returned (.tuple #[.int .u64 v, .int .i64 E]) ∧ RoundIs (scA N x) (scB D x) more neg mode v E ∧ U v ∧ Below w.heap.size w w' := by
  have t0 := q7_new w (.slice a n c1) (.slice b m c2) (.int .i64 x) (.bool more)
  have hb0 := alloc_below (w := w) (.cells #[.slice a n c1, .slice b m c2, .int .i64 x, .bool more] 60)
  obtain ⟨w0, hw0⟩ : ∃ w0, w0 = w.alloc (.cells #[.slice a n c1, .slice b m c2, .int .i64 x, .bool more] 60) := ⟨_, rfl⟩
  rw [← hw0] at t0 hb0
  have h0 := h.later hb0
  have hbl := below_any (more := more) h0
  have hag := fun w1 (hb : Below w0.heap.size w0 w1) {p : Int} (q0 : 0 ≤ p) (q1 : p ≤ mostP) => ag_pat (more := more) (h0.later hb) q0 q1
  have hup := fun w1 (hb : Below w0.heap.size w0 w1) {p : Int} (q0 : 0 ≤ p) (q1 : p ≤ mostP) => up7_any (more := more) (neg := neg) (h0.later hb) q0 q1 m0 m1
  clear h h0
  generalize scA N x = A at *
  generalize scB D x = B at *
  obtain ⟨g, hg⟩ : ∃ g, g = w.heap.size := ⟨_, rfl⟩
  have HG : Hid (w.heap.size = g) := hg.symm
  rw [← hg] at t0 hb0
  have HS : g ≤ w0.heap.size := by rw [hg]; exact hb0.size
  have HB0 : Below w.heap.size w w0 := by rw [← hg]; exact hb0
  have HS' : w.heap.size ≤ w0.heap.size := by rw [HG.out]; exact HS
  obtain ⟨p0, p1, p2, p3⟩ := t0.cells
  go_enter Tryz.func31, Tryz.ntmps31
  go_wp2_with fail
  rw [← hw0, ← hg]
  refine hbl.mono ?_
  rintro e w1 ⟨d, rfl, hbp, hb1⟩
  obtain ⟨d0, d1, _, _⟩ := id hbp
  have hP := fun w => r7parts_any (b := d) d0 d1 w
  have hc1 := hag w1 hb1 d0 d1
  have hu1 := fun w2 (hb2 : Below w1.heap.size w1 w2) => hup w2 (hb1.trans (hb2.mono hb1.size)) d0 d1
  obtain ⟨p0, p1, p2, p3⟩ := (t0.later hb1).cells
  have t1 := t0.later hb1
  clear hbl hag hup hw0 hg t0
  obtain ⟨ng, ud⟩ := neg_of d0 d1
  have hor := sign_or (b := d) ud (by unfold mostP at d1; omega)
  have e0 : mostP = 9218868437227405311 := rfl
  have hsgt : sgB true = 9223372036854775808 := rfl
  have hsgf : sgB false = 0 := rfl
  go_wp2_with fail
  refine (hP w1).mono ?_
  rintro e w2 ⟨rfl, rfl⟩
  clear hP
  go_wp2_with fail
  refine hc1.mono ?_
  rintro e w2 ⟨rfl, hb2⟩
  have hu := hu1 w2 hb2
  have hB2 := HB0.trans ((hb1.trans (hb2.mono hb1.size)).mono HS')
  obtain ⟨p0, p1, p2, p3⟩ := (t1.later hb2).cells
  clear hc1 hu1
  have HRI : Hid (∀ v E, (((agn A B (numW d) more = 0 ∨ upP A B more neg mode d = false) ∧ v = d + sgB neg ∧ E = 0) ∨
   ((agn A B (numW d) more ≠ 0 ∧ upP A B more neg mode d = true) ∧ ((d = mostP ∧ v = 0 ∧ E = 70) ∨ (d < mostP ∧ v = d + 1 + sgB neg ∧ E = 0)))) → RoundIs A B more neg mode v E) := fun v E hh => ⟨d, hbp, hh⟩
  generalize agn A B (numW d) more = C at *
  generalize upP A B more neg mode d = V at *
  rw [e0] at HRI d1
  clear hbp ng
  by_cases hC : C = 0
  · have tC : (C != 0) = false := by simp [hC]
    have HR : Hid (RoundIs A B more neg mode (d + sgB neg) 0) := HRI.out _ _ (Or.inl ⟨Or.inl hC, rfl, rfl⟩)
    clear hC HRI hu
    cases neg
    · have HR' : Hid (RoundIs A B more false mode d 0) := by have := HR.out; rw [hsgf, Int.add_zero] at this; exact this
      clear HR hor hsgt hsgf
      go_wp2
      go_ret2
      exact ⟨_, _, rfl, HR'.out, ud, hB2⟩
    · rw [hsgt] at HR
      clear hsgt hsgf
      have HU : Hid (U (d + 9223372036854775808)) := by show U _; unfold U; omega
      generalize d + 9223372036854775808 = d9 at *
      go_wp2
      go_ret2
      exact ⟨_, _, rfl, HR.out, HU.out, hB2⟩
  · have tC : (C != 0) = true := by simp [hC]
    go_wp2_with fail
    refine hu.mono ?_
    rintro e w3 ⟨rfl, hb3⟩
    have hB3 := hB2.trans (hb3.mono hB2.size)
    clear hu p0 p1 p2 p3
    cases V
    · have HR : Hid (RoundIs A B more neg mode (d + sgB neg) 0) := HRI.out _ _ (Or.inl ⟨Or.inr rfl, rfl, rfl⟩)
      clear hC HRI
      cases neg
      · have HR' : Hid (RoundIs A B more false mode d 0) := by have := HR.out; rw [hsgf, Int.add_zero] at this; exact this
        clear HR hor hsgt hsgf
        go_wp2
        go_ret2
        exact ⟨_, _, rfl, HR'.out, ud, hB3⟩
      · rw [hsgt] at HR
        clear hsgt hsgf
        have HU : Hid (U (d + 9223372036854775808)) := by show U _; unfold U; omega
        generalize d + 9223372036854775808 = d9 at *
        go_wp2
        go_ret2
        exact ⟨_, _, rfl, HR.out, HU.out, hB3⟩
    · by_cases hd : d = 9218868437227405311
      · have HR : Hid (RoundIs A B more neg mode 0 70) := HRI.out _ _ (Or.inr ⟨⟨hC, rfl⟩, Or.inl ⟨hd, rfl, rfl⟩⟩)
        have tD : (d == 9218868437227405311) = true := by simp [hd]
        clear hC HRI hd hor
        go_wp2
        go_ret2
        exact ⟨_, _, rfl, HR.out, by unfold U; omega, hB3⟩
      · have HR : Hid (RoundIs A B more neg mode (d + 1 + sgB neg) 0) := HRI.out _ _ (Or.inr ⟨⟨hC, rfl⟩, Or.inr ⟨by omega, rfl, rfl⟩⟩)
        have tD : (d == 9218868437227405311) = false := by simp [hd]
        have hor' := sign_or (b := d + 1) (by unfold U; omega) (by omega)
        clear hC HRI hor
        cases neg
        · have HR' : Hid (RoundIs A B more false mode (d + 1) 0) := by have := HR.out; rw [hsgf, Int.add_zero] at this; exact this
          have HU : Hid (U (d + 1)) := by show U _; unfold U; omega
          clear HR hor' hsgt hsgf
          go_wp2
          go_ret2
          exact ⟨_, _, rfl, HR'.out, HU.out, hB3⟩
        · rw [hsgt] at HR
          clear hsgt hsgf
          have HU : Hid (U (d + 1 + 9223372036854775808)) := by show U _; unfold U; omega
          generalize d + 1 + 9223372036854775808 = d9 at *
          go_wp2
          go_ret2
          exact ⟨_, _, rfl, HR.out, HU.out, hB3⟩
end
set_option maxHeartbeats 1600000 in
theorem r7Quotient_bad {w : World} {a b : Option Addr} {n m c1 c2 : Nat} {mode : Int} {neg : Bool} (h : mode < 0 ∨ 4 < mode) :
    Calls Tryz.prog 13 #[.bool neg, .slice a n c1, .slice b m c2, .int .i64 mode] w fun e w' => e = .returned (.tuple #[.int .u64 0, .int .i64 71]) ∧ Below w.heap.size w w' := by
  rcases h with h | h
  · go_enter Tryz.func13, Tryz.ntmps13
    go_wp2
    go_ret2
    exact ⟨rfl, Below.refl _ _⟩
  · have h' : ¬ mode < 0 := by omega
    go_enter Tryz.func13, Tryz.ntmps13
    go_wp2
    go_ret2
    exact ⟨rfl, Below.refl _ _⟩
set_option maxHeartbeats 1600000 in
theorem r7Quotient_zero {w : World} {a b : Option Addr} {n m c1 c2 : Nat} {ys : List Int} (hr2 : RowC w b m c2 ys) (hy : Ws ys) (hm : m ≤ 1100000) {mode : Int} {neg : Bool} (m0 : 0 ≤ mode) (m1 : mode ≤ 4) (hz : num ys = 0) :
    Calls Tryz.prog 13 #[.bool neg, .slice a n c1, .slice b m c2, .int .i64 mode] w fun e w' => e = .returned (.tuple #[.int .u64 0, .int .i64 50]) ∧ Below w.heap.size w w' := by
  have hN := ref3Norm_any (cap := c2) hr2.1 hy (by omega)
  have hl : words (num ys) = [] := List.length_eq_zero_iff.mp ((words_nil (num_nonneg hy)).mpr hz)
  rw [hl] at hN
  have q1 : ¬ mode < 0 := by omega
  have q2 : ¬ 4 < mode := by omega
  go_enter Tryz.func13, Tryz.ntmps13
  go_wp2_with fail
  refine hN.mono ?_
  rintro e w1 ⟨v, rfl, ho, hb⟩
  obtain ⟨va, vc, rfl, hvr⟩ := ho.readsC
  clear hN ho hvr hl
  simp only [List.length_nil]
  go_wp2
  go_ret2
  exact ⟨rfl, hb⟩
set_option maxHeartbeats 1600000 in
theorem r7Quotient_any {w : World} {a b : Option Addr} {n m c1 c2 : Nat} {xs ys : List Int} (hr1 : RowC w a n c1 xs) (hr2 : RowC w b m c2 ys) (hx : Ws xs) (hy : Ws ys) (hn : n ≤ 1100000) (hm : m ≤ 1100000) {mode : Int} {neg : Bool} (m0 : 0 ≤ mode) (m1 : mode ≤ 4) (hD : 0 < num ys) :
    Calls Tryz.prog 13 #[.bool neg, .slice a n c1, .slice b m c2, .int .i64 mode] w fun e w' => ∃ v E, e = .returned (.tuple #[.int .u64 v, .int .i64 E]) ∧ RoundIs (scA (num xs) 0) (scB (num ys) 0) false neg mode v E ∧ U v ∧ Below w.heap.size w w' := by
  have hN := ref3Norm_any (cap := c2) hr2.1 hy (by omega)
  have hN1 := fun w1 (h : Below w.heap.size w w1) => ref3Norm_any (cap := c1) (hr1.later h).1 hx (by omega)
  have l1 := hr1.1.1
  have l2 := hr2.1.1
  have lx : Lt (num xs) n := ⟨num_nonneg hx, by have := num_bd hx; rw [l1] at this; exact this⟩
  have ly : Lt (num ys) m := ⟨num_nonneg hy, by have := num_bd hy; rw [l2] at this; exact this⟩
  have hz := words_nil (N := num ys) (Int.le_of_lt hD)
  have q1 : ¬ mode < 0 := by omega
  have q2 : ¬ 4 < mode := by omega
  clear hr1 hr2 hx hy l1 l2
  generalize num xs = N at *
  generalize num ys = D at *
  go_enter Tryz.func13, Tryz.ntmps13
  go_wp2_with fail
  refine hN.mono ?_
  rintro e w1 ⟨v, rfl, ho, hb⟩
  obtain ⟨a2, n2, d2, l2, rfl, r2, nm2, E2⟩ := ho.opens ly (by omega)
  have hl2 := r2.1.1
  have hl2' := ly.len
  rw [← E2.out, hl2] at hl2' hz
  have hN1' := hN1 w1 hb
  have t0 : ((n2 : Int) == 0) = false := by
    have : n2 ≠ 0 := fun h => by have := hz.mp h; omega
    simp; omega
  clear hN ho hz hN1
  go_wp2_with fail
  refine hN1'.mono ?_
  rintro e w2 ⟨v, rfl, ho, hb2⟩
  obtain ⟨a3, n3, d3, l3, rfl, r3, nm3, E3⟩ := ho.opens lx (by omega)
  have hl3 := r3.1.1
  have hl3' := lx.len
  rw [← E3.out, hl3] at hl3'
  have hex : Ex7 w2 a3 a2 n3 n2 d3 d2 0 N D l3 l2 := ⟨r3, r2.later hb2, nm3.ws, nm2.ws, by omega, by omega, by omega, by omega, nm3.num, nm2.num, hD⟩
  have hR := round7_any (more := false) (neg := neg) hex m0 m1
  have hB2 := hb.trans (hb2.mono hb.size)
  clear hN1' ho r2 r3 nm2 nm3 E2 E3 hex hl2 hl2' hl3 hl3' lx ly
  go_wp2_with fail
  refine hR.mono ?_
  rintro e w3 ⟨v, E, rfl, hr, hu, hb3⟩
  have hb9 := hB2.trans (hb3.mono hB2.size)
  clear hR
  go_wp2
  go_ret2
  exact ⟨_, _, rfl, hr, hu, hb9⟩
end Go.Proofs.YtbbmoaipilmmdabGreatDoor
