/- plumbref07: below, up, round. -/
import Derived.Test.YtbbmoaipilmmdabGreatDoorNearRef
namespace Go.Proofs.YtbbmoaipilmmdabGreatDoor
open Go.ChangeShapes Go.WideShapes Go.ChangeAt Go.RowKit
open Na Ar
set_option linter.unusedVariables false
/-- an exact number, as the document's way has it -/
structure Ex7 (w : World) (a b : Option Addr) (n m c1 c2 : Nat) (x N D : Int) (xs ys : List Int) : Prop where
  r1 : RowC w a n c1 xs
  r2 : RowC w b m c2 ys
  hx : Ws xs
  hy : Ws ys
  hn : n ≤ 1100000
  hm : m ≤ 1100000
  x0 : -100000000 ≤ x
  x1 : x ≤ 100000000
  hN : num xs = N
  hD : num ys = D
  pD : 0 < D
section
variable {w w' : World} {a b : Option Addr} {n m c1 c2 : Nat} {x N D : Int} {xs ys : List Int} {more neg : Bool}
theorem Ex7.later (h : Ex7 w a b n m c1 c2 x N D xs ys) (hb : Below w.heap.size w w') : Ex7 w' a b n m c1 c2 x N D xs ys := ⟨h.r1.later hb, h.r2.later hb, h.hx, h.hy, h.hn, h.hm, h.x0, h.x1, h.hN, h.hD, h.pD⟩
theorem Ex7.A0 (h : Ex7 w a b n m c1 c2 x N D xs ys) : 0 ≤ scA N x := by
  unfold scA
  rw [← h.hN]
  exact Int.mul_nonneg (num_nonneg h.hx) (Int.le_of_lt (e2_pos _))
theorem Ex7.B0 (h : Ex7 w a b n m c1 c2 x N D xs ys) : 0 < scB D x := scB_pos h.pD
/-- against a pattern -/
theorem ag_pat (h : Ex7 w a b n m c1 c2 x N D xs ys) {p : Int} (h0 : 0 ≤ p) (h1 : p ≤ mostP) :
    Calls Tryz.prog 56 #[.agg #[.slice a n c1, .slice b m c2, .int .i64 x, .bool more], .int .u64 (spM p), .int .i64 (spX p)] w fun r w' => r = .returned (.int .i64 (agn (scA N x) (scB D x) (numW p) more)) ∧ Below w.heap.size w w' := by
  have hsp : -1074 ≤ spX p ∧ spX p ≤ 971 := by
    obtain ⟨u1, f1, _⟩ := size_fin h0 h1
    obtain ⟨q, e1, e2', _⟩ := num_parts u1 f1
    omega
  have := against_any (more := more) h.r1 h.r2 h.hx h.hy h.hn h.hm (U_spM p) h.x0 h.x1 (e := spX p) (by omega) (by omega)
  rw [h.hN, h.hD, agX_pat h0 h1] at this
  exact this
theorem ag_mid (h : Ex7 w a b n m c1 c2 x N D xs ys) {p : Int} (h0 : 0 ≤ p) (h1 : p ≤ mostP) :
    Calls Tryz.prog 56 #[.agg #[.slice a n c1, .slice b m c2, .int .i64 x, .bool more], .int .u64 (2 * spM p + 1), .int .i64 (spX p - 1)] w fun r w' => r = .returned (.int .i64 (agn (2 * scA N x) (scB D x) (numW p + nxtN p) more)) ∧ Below w.heap.size w w' := by
  obtain ⟨u1, f1, _⟩ := size_fin h0 h1
  obtain ⟨q, e1, e2', e3, e4, _⟩ := num_parts u1 f1
  have := against_any (more := more) (mm := 2 * spM p + 1) h.r1 h.r2 h.hx h.hy h.hn h.hm (by unfold U; omega) h.x0 h.x1 (e := spX p - 1) (by omega) (by omega)
  rw [h.hN, h.hD, agX_mid h0 h1] at this
  exact this
theorem agn_ge (A B n : Int) (more : Bool) : (0 ≤ agn A B n more ↔ n * B ≤ A) ∧ -1 ≤ agn A B n more ∧ agn A B n more ≤ 1 := by
  rcases agn_cases A B n more with ⟨h, k⟩ | ⟨h, k⟩ | ⟨h, k⟩ <;> rw [k]
  · omega
  · cases more <;> simp <;> omega
  · omega
set_option maxHeartbeats 3200000 in
set_option maxRecDepth 100000 in
theorem below_any (h : Ex7 w a b n m c1 c2 x N D xs ys) :
    Calls Tryz.prog 54 #[.agg #[.slice a n c1, .slice b m c2, .int .i64 x, .bool more]] w fun r w' => ∃ d, r = .returned (.int .u64 d) ∧ BelP (scA N x) (scB D x) d ∧ Below w.heap.size w w' := by
  have t0 := q7_new w (.slice a n c1) (.slice b m c2) (.int .i64 x) (.bool more)
  have hb0 := alloc_below (w := w) (.cells #[.slice a n c1, .slice b m c2, .int .i64 x, .bool more] 60)
  obtain ⟨w0, hw0⟩ : ∃ w0, w0 = w.alloc (.cells #[.slice a n c1, .slice b m c2, .int .i64 x, .bool more] 60) := ⟨_, rfl⟩
  rw [← hw0] at t0 hb0
  have hA := h.A0
  have hB := h.B0
  have h0 := h.later hb0
  have hag := fun w1 (hb : Below w0.heap.size w0 w1) {p : Int} (q0 : 0 ≤ p) (q1 : p ≤ mostP) => ag_pat (more := more) (h0.later hb) q0 q1
  clear h h0
  generalize scA N x = A at *
  generalize scB D x = B at *
  obtain ⟨g, hg⟩ : ∃ g, g = w.heap.size := ⟨_, rfl⟩
  have HG : Hid (w.heap.size = g) := hg.symm
  rw [← hg] at t0 hb0
  have HS : g ≤ w0.heap.size := by rw [hg]; exact hb0.size
  have hst : HalfI A B 0 mostP := hav_start hA
  go_enter Tryz.func54, Tryz.ntmps54
  go_wp2
  rw [← hw0, ← hg]
  clear hw0 hg
  go_loopw [3, 4] (fun lo hi w4 => ∃ l h : Int, lo = .int .u64 l ∧ hi = .int .u64 h ∧ HalfI A B l h ∧ Below w0.heap.size w0 w4) (fun lo hi _ => (intOf hi - intOf lo).toNat)
  case atStart => exact ⟨0, mostP, rfl, rfl, hst, Below.refl _ _⟩
  case round =>
    clear hst
    obtain ⟨l, h, rfl, rfl, hI, hnx⟩ := hrel
    obtain ⟨i1, i2, i3, i4, i5⟩ := id hI
    have e0 : mostP = 9218868437227405311 := rfl
    rw [e0] at i3
    by_cases hlt : l < h
    · obtain ⟨mid, hmid⟩ : ∃ mid, mid = l + (h - l + 1) / 2 := ⟨_, rfl⟩
      have m1 : l < mid := by omega
      have m2 : mid ≤ h := by omega
      have hup := hav_up hI m1 m2
      have hdn := hav_down hI m1 m2
      have q1 : mid ≤ mostP := by rw [e0]; omega
      have hc := hag _ hnx (p := mid) (by omega) q1
      obtain ⟨g1, g2, g3⟩ := agn_ge A B (numW mid) more
      obtain ⟨p0, p1, p2, p3⟩ := (t0.later hnx).cells
      have hP := fun w => r7parts_any (b := mid) (by omega) q1 w
      generalize agn A B (numW mid) more = C at *
      generalize spM mid = sM at *
      generalize spX mid = sX at *
      have hmid' : l + (h - l + 1) / 2 = mid := hmid.symm
      clear hmid hI i4 i5 e0 hag
      by_cases hge : 0 ≤ C
      · have HI : Hid (HalfI A B mid h) := hup (g1.mp hge)
        clear hup hdn g1
        go_wp2_with fail
        refine (hP _).mono ?_
        rintro e w1 ⟨rfl, rfl⟩
        clear hP
        go_wp2_with fail
        refine hc.mono ?_
        rintro e w1 ⟨rfl, hb1⟩
        have hb := hnx.trans (hb1.mono hnx.size)
        clear hc p0 p1 p2 p3 hnx hb1
        go_wp2
        go_roundw
        case rel => exact ⟨mid, h, rfl, rfl, HI, hb⟩
        case measure => simp [intOf]; omega
      · have HI : Hid (HalfI A B l (mid - 1)) := hdn (by omega)
        clear hup hdn g1
        go_wp2_with fail
        refine (hP _).mono ?_
        rintro e w1 ⟨rfl, rfl⟩
        clear hP
        go_wp2_with fail
        refine hc.mono ?_
        rintro e w1 ⟨rfl, hb1⟩
        have hb := hnx.trans (hb1.mono hnx.size)
        clear hc p0 p1 p2 p3 hnx hb1
        go_wp2
        go_roundw
        case rel => exact ⟨l, mid - 1, rfl, rfl, HI, hb⟩
        case measure => simp [intOf]; omega
    · have HE : Hid (BelP A B l) := hav_end hI hlt
      have hb := hb0.trans (hnx.mono HS)
      clear hI i4 i5 e0 hag
      go_wp2
      go_ret
      exact ⟨l, rfl, HE.out, by rw [HG.out]; exact hb⟩
set_option maxHeartbeats 3200000 in
set_option maxRecDepth 100000 in
theorem up7_any (h : Ex7 w a b n m c1 c2 x N D xs ys) {d mode : Int} (h0 : 0 ≤ d) (h1 : d ≤ mostP) (m0 : 0 ≤ mode) (m1 : mode ≤ 4) :
    Calls Tryz.prog 57 #[.agg #[.slice a n c1, .slice b m c2, .int .i64 x, .bool more], .bool neg, .int .u64 d, .int .i64 mode] w fun r w' => r = .returned (.bool (upP (scA N x) (scB D x) more neg mode d)) ∧ Below w.heap.size w w' := by
  have t0 := q7_new w (.slice a n c1) (.slice b m c2) (.int .i64 x) (.bool more)
  have hb0 := alloc_below (w := w) (.cells #[.slice a n c1, .slice b m c2, .int .i64 x, .bool more] 60)
  obtain ⟨w0, hw0⟩ : ∃ w0, w0 = w.alloc (.cells #[.slice a n c1, .slice b m c2, .int .i64 x, .bool more] 60) := ⟨_, rfl⟩
  rw [← hw0] at t0 hb0
  have hc := ag_mid (more := more) (h.later hb0) h0 h1
  have hsp : 0 ≤ spM d ∧ spM d < 9007199254740992 ∧ -1074 ≤ spX d ∧ spX d ≤ 971 := by
    obtain ⟨u1, f1, _⟩ := size_fin h0 h1
    obtain ⟨q, e1, e2', e3, e4, _⟩ := num_parts u1 f1
    omega
  have hP := fun w => r7parts_any (b := d) h0 h1 w
  have hu : U d := (size_fin h0 h1).1
  have hand := and_one hu
  obtain ⟨V, hV⟩ : ∃ V, V = upP (scA N x) (scB D x) more neg mode d := ⟨_, rfl⟩
  rw [← hV]
  have HV : Hid (V = upP (scA N x) (scB D x) more neg mode d) := hV
  obtain ⟨g2, g3⟩ := (agn_ge (2 * scA N x) (scB D x) (numW d + nxtN d) more).2
  clear hV h
  generalize scA N x = A at *
  generalize scB D x = B at *
  obtain ⟨g, hg⟩ : ∃ g, g = w.heap.size := ⟨_, rfl⟩
  have HG : Hid (w.heap.size = g) := hg.symm
  rw [← hg] at t0 hb0
  have HS : g ≤ w0.heap.size := by rw [hg]; exact hb0.size
  have HB0 : Below w.heap.size w w0 := by rw [← hg]; exact hb0
  obtain ⟨p0, p1, p2, p3⟩ := t0.cells
  obtain ⟨s1, s2, s3, s4⟩ := hsp
  rcases mode_cases m0 m1 with rfl | rfl | rfl | rfl | rfl
  · have HE : Hid (V = (decide (0 < agn (2 * A) B (numW d + nxtN d) more) || (decide (agn (2 * A) B (numW d + nxtN d) more = 0) && decide (d % 2 = 1)))) := HV.out
    generalize agn (2 * A) B (numW d + nxtN d) more = C at *
    generalize spM d = sM at *
    generalize spX d = sX at *
    clear HV
    go_enter Tryz.func57, Tryz.ntmps57
    go_wp2_with fail
    refine (hP _).mono ?_
    rintro e w1 ⟨rfl, rfl⟩
    rw [← hw0, ← hg]
    clear hP hw0 hg
    go_wp2_with fail
    refine hc.mono ?_
    rintro e w1 ⟨rfl, hb1⟩
    have hb := HB0.trans (hb1.mono (by rw [HG.out]; exact HS))
    clear hc p0 p1 p2 p3 hb1
    rcases Int.lt_trichotomy C 0 with hC | hC | hC
    · have t1 : decide (0 < C) = false := by simp; omega
      have t2 : (C == 0) = false := by simp; omega
      have HF : Hid (false = V) := by show _ = _; rw [HE.out]; simp; omega
      clear HE
      go_wp2
      go_ret
      exact ⟨by rw [← HF.out]; rfl, hb⟩
    · subst hC
      have HF : Hid ((d % 2 == 1) = V) := by show _ = _; rw [HE.out]; simp; rw [Bool.eq_iff_iff]; simp
      clear HE
      go_wp2
      go_ret
      exact ⟨by rw [← HF.out]; rfl, hb⟩
    · have t1 : decide (0 < C) = true := by simp; omega
      have HF : Hid (true = V) := by show _ = _; rw [HE.out, t1]; rfl
      clear HE
      go_wp2
      go_ret
      exact ⟨by rw [← HF.out]; rfl, hb⟩
  · have HE : Hid (V = false) := HV.out
    clear HV hP hc hand
    go_enter Tryz.func57, Tryz.ntmps57
    go_wp2
    go_ret
    rw [← hw0]
    exact ⟨by rw [HE.out]; rfl, HB0⟩
  · have HE : Hid (V = true) := HV.out
    clear HV hP hc hand
    go_enter Tryz.func57, Tryz.ntmps57
    go_wp2
    go_ret
    rw [← hw0]
    exact ⟨by rw [HE.out]; rfl, HB0⟩
  · have HE : Hid (V = !neg) := HV.out
    clear HV hP hc hand
    go_enter Tryz.func57, Tryz.ntmps57
    go_wp2
    go_ret
    rw [← hw0]
    exact ⟨by rw [HE.out]; rfl, HB0⟩
  · have HE : Hid (V = neg) := HV.out
    clear HV hP hc hand
    go_enter Tryz.func57, Tryz.ntmps57
    go_wp2
    go_ret
    rw [← hw0]
    exact ⟨by rw [HE.out]; rfl, HB0⟩
end
end Go.Proofs.YtbbmoaipilmmdabGreatDoor
