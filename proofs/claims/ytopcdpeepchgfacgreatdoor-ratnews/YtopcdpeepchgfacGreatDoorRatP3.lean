/- rat.Parse. -/
import Derived.Test.YtopcdpeepchgfacGreatDoorRatP2
import Derived.Test.YtopcdpeepchgfacGreatDoorRatF
namespace Go.Proofs.YtopcdpeepchgfacGreatDoor
open Go.ChangeShapes Go.WideShapes Go.ChangeAt Go.RowKit
open Na Ar
set_option linter.unusedVariables false
theorem FaultAt.ne_st {w : World} {g g0 : Nat} {p c : Int} {t : TypeId} {b : Bool} {y z : Value} (hF : FaultAt w g p c) (hs : St w g0 t (.bool b) y z) : g ≠ g0 := by
  intro e
  subst e
  have h1 := hF.1
  rw [hs.cells.1] at h1
  cases h1
theorem FaultAt.inn {w w' : World} {g g0 : Nat} {p c : Int} (h : FaultAt w g p c) (hi : In g0 (g0 + 1) w w') (hne : g ≠ g0) : FaultAt w' g p c := by
  have hlt : g < w.heap.size := cell_lt h.1
  have hb := hi.block g hlt (by omega)
  refine ⟨?_, ?_⟩
  · have := h.1; unfold World.cell? at *; simp only [] at *; rw [hb]; exact this
  · have := h.2; unfold World.cell? at *; simp only [] at *; rw [hb]; exact this
/-- which error, and where -/
def PAns (c1 p1 c2 p2 D f bat code p : Int) : Prop :=
  (c1 = 41 ∧ code = 41 ∧ p = f + p1) ∨ (c1 ≠ 41 ∧ c2 = 41 ∧ code = 41 ∧ p = bat + p2) ∨ (c1 ≠ 41 ∧ c2 = 0 ∧ D = 0 ∧ code = 50 ∧ p = bat) ∨
  (c1 ≠ 41 ∧ c1 ≠ 0 ∧ c2 ≠ 41 ∧ ¬ (c2 = 0 ∧ D = 0) ∧ code = c1 ∧ p = f + p1) ∨ (c1 = 0 ∧ c2 ≠ 0 ∧ c2 ≠ 41 ∧ code = c2 ∧ p = bat + p2) ∨ (c1 = 0 ∧ c2 = 0 ∧ D ≠ 0 ∧ code = 0 ∧ p = -1)
/-- what Parse answers -/
def PRes (w : World) (neg : Bool) (N D code p : Int) (e : Ending) (w' : World) : Prop :=
  ((code = 0 ∧ ∃ s v1 v2, e = .returned (.tuple #[.agg #[.bool s, v1, v2], .nilIface]) ∧ RtO w' w.heap.size s v1 v2 (mkR neg N D)) ∨
   (code ≠ 0 ∧ ∃ g, e = .returned (.tuple #[.agg #[.bool false, .slice none 0 0, .slice none 0 0], .iface 74 (.pointer (some ⟨g, 0, none⟩))]) ∧ FaultAt w' g p code)) ∧ Below w.heap.size w w'
theorem gr_below {w w' : World} (h : Gr w w') : Below w.heap.size w w' := h.2
namespace Na
theorem numB_nonneg10 (s : ByteArray) : 0 ≤ numB s 10 s.size := numB_nonneg (by omega) s.size
theorem pcode_len {s : ByteArray} {b c p : Int} (h : PCode s b c p) (hc : c = 0) : (words (numB s b s.size)).length ≤ 4096 := by
  rcases h with ⟨_, a2, a3⟩ | ⟨_, _, a2, a3⟩ | ⟨_, i, i1, _, _, a2, a3⟩ | ⟨_, _, _, a2, a3⟩ | ⟨_, _, al, a2, a3⟩ <;> omega
end Na
set_option maxHeartbeats 12800000 in
set_option maxRecDepth 100000 in
theorem rParse_go {s z above below0 : ByteArray} {neg isQ : Bool} {f bat N1 N2 : Int} {P1 P2 : Int → Int → Prop}
    (hpre : ∀ w : World, Calls Tryz.prog 34 #[.string s, .string ⟨#[45]⟩] w fun e w' => e = .returned (.tuple #[.string z, .bool neg]) ∧ w = w')
    (hcut : ∀ w : World, Calls Tryz.prog 35 #[.string z, .string ⟨#[47]⟩] w fun e w' => e = .returned (.tuple #[.string above, .string below0, .bool isQ]) ∧ Gr w w')
    (rd1 : ∀ w : World, ErrVar w → Calls Tryz.prog 36 #[.string above, .int .i64 f] w fun e w' => ∃ c p, P1 c p ∧ ParseRes w N1 c (f + p) e w')
    (rd2 : ∀ w : World, ErrVar w → Calls Tryz.prog 36 #[.string (if isQ = true then below0 else ⟨#[49]⟩), .int .i64 bat] w fun e w' => ∃ c p, P2 c p ∧ ParseRes w N2 c (bat + p) e w')
    (ln1 : ∀ c p, P1 c p → c = 0 → (words N1).length ≤ 4096) (ln2 : ∀ c p, P2 c p → c = 0 → (words N2).length ≤ 4096) (nn1 : 0 ≤ N1) (nn2 : 0 ≤ N2)
    (hf : (s.size : Int) - (z.size : Int) = f) (hbat : f + (above.size : Int) + 1 = bat) (f0 : 0 ≤ f) (f1 : f ≤ 1) (ha : above.size ≤ 1000000) (hs9 : s.size ≤ 1000000) (hz9 : z.size ≤ 1000000)
    (w : World) (hE : ErrVar w) :
    Calls Tryz.prog 9 #[.string s] w fun e w' => ∃ c1 p1 c2 p2 code p, P1 c1 p1 ∧ P2 c2 p2 ∧ PAns c1 p1 c2 p2 N2 f bat code p ∧ PRes w neg N1 N2 code p e w' := by
  have hb0 := alloc_below (w := w) (.cells #[.bool false, .slice none 0 0, .slice none 0 0] 25)
  have st0 := st_new w (.bool false) (.slice none 0 0) (.slice none 0 0) 25
  cases isQ
  · rw [if_neg (by decide)] at rd2
    go_enter Tryz.func9, Tryz.ntmps9
    go_wp2_with fail
    refine (hpre _).mono ?_
    rintro e w' ⟨rfl, rfl⟩
    go_wp2_with fail
    refine (hcut _).mono ?_
    rintro e wc ⟨rfl, hgc⟩
    have hbc := hb0.trans (hgc.2.mono hb0.size)
    have stc := st0.later hgc.2
    have hEc := hE.later hbc
    clear hpre hcut
    go_wp2_with fail
    refine (rd1 _ hEc).mono ?_
    rintro e w1 ⟨c1, p1, hc1, hr1, hb1⟩
    have hB1 := hbc.trans (hb1.mono hbc.size)
    have st1 := stc.later hb1
    have hE1 := hEc.later hb1
    have HC1 : Hid (P1 c1 p1) := hc1
    clear hc1 rd1 stc hEc hE
    rcases hr1 with ⟨hz1, v1, rfl, o1⟩ | ⟨hz1, g1, rfl, F1⟩
    · obtain ⟨a1, k1, rfl, r1⟩ := o1.readsC
      have HZ1 : Hid (c1 = 0) := hz1
      clear hz1
      go_wp2_with fail
      refine (rd2 _ hE1).mono ?_
      rintro e w2 ⟨c2, p2, hc2, hr2, hb2⟩
      have hB2 := hB1.trans (hb2.mono hB1.size)
      have st2 := st1.later hb2
      have hE2 := hE1.later hb2
      have HC2 : Hid (P2 c2 p2) := hc2
      clear hc2 rd2 st1 hE1
      have d0 := HZ1.out
      rcases hr2 with ⟨hz2, v2, rfl, o2⟩ | ⟨hz2, g2, rfl, F2⟩
      · obtain ⟨a2, k2, rfl, r2⟩ := o2.readsC
        have HZ2 : Hid (c2 = 0) := hz2
        have d2 := hz2
        clear hz2
        by_cases hD : N2 = 0
        · have wl : (((words (N2)).length : Int) == 0) = true := beq_of (by rw [hD, show words 0 = [] from dig_zero _]; rfl)
          have HD0 : Hid (N2 = 0) := hD
          clear hD
          go_wp2_with fail
          refine (codeNil_any _).mono ?_
          rintro e w3 ⟨rfl, hb3⟩
          have hB3 := hB2.trans (hb3.mono hB2.size)
          have st3 := st2.later hb3
          have hE3 := hE2.later hb3
          go_wp2_with fail
          refine (codeNil_any _).mono ?_
          rintro e w4 ⟨rfl, hb4⟩
          have hB4 := hB3.trans (hb4.mono hB3.size)
          have st4 := st3.later hb4
          obtain ⟨x0, x1, x2⟩ := st4.cells
          go_wp2_with fail
          refine (wrapF_any _ _ _).mono ?_
          rintro e w5 ⟨g5, rfl, F5, hb5⟩
          have hB5 := hB4.trans (hb5.mono hB4.size)
          have st5 := st4.later hb5
          obtain ⟨x0, x1, x2⟩ := st5.cells
          obtain ⟨y0, y1, y2⟩ := st5.frozen
          go_wp2_with fail
          have st9 := (st5.set (.bool false) (.slice none 0 0) (.slice none 0 0)).cells
          refine bodyPost_ret (v := .tuple #[.agg #[.bool false, .slice none 0 0, .slice none 0 0], .iface 74 (.pointer (some ⟨g5, 0, none⟩))]) (by simp [results, Tryz.results9, go_sem, st9]) rfl ?_
          have hF9 := F5
          exact ⟨c1, p1, c2, p2, 50, _, HC1.out, HC2.out, Or.inr (Or.inr (Or.inl ⟨by omega, by omega, HD0.out, rfl, rfl⟩)), Or.inr ⟨by omega, g5, rfl, hF9.inn (in3 _ _ _ _ _) (hF9.ne_st st5)⟩, below_in hB5 (in3 _ _ _ _ _) (Nat.le_refl _) (Nat.le_refl _)⟩
        · have wl : (((words (N2)).length : Int) == 0) = false := beq_no (by
            intro h
            exact hD ((words_nil nn2).mp (by omega)))
          go_wp2_with fail
          refine (codeNil_any _).mono ?_
          rintro e w3 ⟨rfl, hb3⟩
          have hB3 := hB2.trans (hb3.mono hB2.size)
          have st3 := st2.later hb3
          have hE3 := hE2.later hb3
          go_wp2_with fail
          refine (codeNil_any _).mono ?_
          rintro e w4 ⟨rfl, hb4⟩
          have hB4 := hB3.trans (hb4.mono hB3.size)
          have st4 := st3.later hb4
          have r1' := (((r1.later hb2).later hb3).later hb4)
          have r2' := ((r2.later hb3).later hb4)
          go_wp2_with fail
          refine (rlow_any (neg := neg) r1' r2' ⟨Dg_words _, num_words nn1, by have := ln1 _ _ HC1.out HZ1.out; omega⟩ ⟨Dg_words _, num_words nn2, by have := ln2 _ _ HC2.out HZ2.out; omega⟩ (by omega) (by have := ln1 _ _ HC1.out HZ1.out; omega) (by have := ln2 _ _ HC2.out HZ2.out; omega)).mono ?_
          rintro e w5 ⟨s9, u1, u2, rfl, hR, hb5⟩
          obtain ⟨a9, n9, m9, b9, l9, d9, rfl, rfl, _⟩ := hR.opens
          have hB5 := hB4.trans (hb5.mono hB4.size)
          have st5 := st4.later hb5
          obtain ⟨x0, x1, x2⟩ := st5.cells
          obtain ⟨y0, y1, y2⟩ := st5.frozen
          go_wp2_with fail
          have st9 := (st5.set (.bool s9) (.slice a9 n9 m9) (.slice b9 l9 d9)).cells
          refine bodyPost_ret (v := .tuple #[.agg #[.bool s9, .slice a9 n9 m9, .slice b9 l9 d9], .nilIface]) (by simp [results, Tryz.results9, go_sem, st9]) rfl ?_
          have hsz := hB4.size
          have hlt := st4.lt
          exact ⟨c1, p1, c2, p2, 0, -1, HC1.out, HC2.out, Or.inr (Or.inr (Or.inr (Or.inr (Or.inr ⟨HZ1.out, HZ2.out, hD, rfl, rfl⟩)))), Or.inl ⟨rfl, _, _, _, rfl, (hR.inn (in3 _ _ _ _ _) hlt).lower hsz⟩, below_in hB5 (in3 _ _ _ _ _) (Nat.le_refl _) (Nat.le_refl _)⟩
      · by_cases m41 : c2 = 41
        · have q2 : (c2 == 41) = true := beq_of m41
          go_wp2_with fail
          refine (codeNil_any _).mono ?_
          rintro e w3 ⟨rfl, hb3⟩
          have hB3 := hB2.trans (hb3.mono hB2.size)
          have st3 := st2.later hb3
          have hE3 := hE2.later hb3
          go_wp2_with fail
          refine (codeFault_any (F2.later hb3) hE3).mono ?_
          rintro e w4 ⟨rfl, hb4⟩
          have hB4 := hB3.trans (hb4.mono hB3.size)
          have st4 := st3.later hb4
          obtain ⟨x0, x1, x2⟩ := st4.cells
          obtain ⟨y0, y1, y2⟩ := st4.frozen
          go_wp2_with fail
          have st9 := (st4.set (.bool false) (.slice none 0 0) (.slice none 0 0)).cells
          refine bodyPost_ret (v := .tuple #[.agg #[.bool false, .slice none 0 0, .slice none 0 0], .iface 74 (.pointer (some ⟨g2, 0, none⟩))]) (by simp [results, Tryz.results9, go_sem, st9]) rfl ?_
          have hF9 := (F2.later hb3).later hb4
          exact ⟨c1, p1, c2, p2, c2, _, HC1.out, HC2.out, Or.inr (Or.inl ⟨by omega, m41, m41, rfl⟩), Or.inr ⟨hz2, g2, rfl, hF9.inn (in3 _ _ _ _ _) (hF9.ne_st st4)⟩, below_in hB4 (in3 _ _ _ _ _) (Nat.le_refl _) (Nat.le_refl _)⟩
        · have q2 : (c2 == 41) = false := beq_no m41
          go_wp2_with fail
          refine (codeNil_any _).mono ?_
          rintro e w3 ⟨rfl, hb3⟩
          have hB3 := hB2.trans (hb3.mono hB2.size)
          have st3 := st2.later hb3
          have hE3 := hE2.later hb3
          go_wp2_with fail
          refine (codeFault_any (F2.later hb3) hE3).mono ?_
          rintro e w4 ⟨rfl, hb4⟩
          have hB4 := hB3.trans (hb4.mono hB3.size)
          have st4 := st3.later hb4
          obtain ⟨x0, x1, x2⟩ := st4.cells
          obtain ⟨y0, y1, y2⟩ := st4.frozen
          go_wp2_with fail
          have st9 := (st4.set (.bool false) (.slice none 0 0) (.slice none 0 0)).cells
          refine bodyPost_ret (v := .tuple #[.agg #[.bool false, .slice none 0 0, .slice none 0 0], .iface 74 (.pointer (some ⟨g2, 0, none⟩))]) (by simp [results, Tryz.results9, go_sem, st9]) rfl ?_
          have hF9 := (F2.later hb3).later hb4
          exact ⟨c1, p1, c2, p2, c2, _, HC1.out, HC2.out, Or.inr (Or.inr (Or.inr (Or.inr (Or.inl ⟨HZ1.out, hz2, m41, rfl, rfl⟩)))), Or.inr ⟨hz2, g2, rfl, hF9.inn (in3 _ _ _ _ _) (hF9.ne_st st4)⟩, below_in hB4 (in3 _ _ _ _ _) (Nat.le_refl _) (Nat.le_refl _)⟩
    · have HZ1 : Hid (c1 ≠ 0) := hz1
      go_wp2_with fail
      refine (rd2 _ hE1).mono ?_
      rintro e w2 ⟨c2, p2, hc2, hr2, hb2⟩
      have hB2 := hB1.trans (hb2.mono hB1.size)
      have st2 := st1.later hb2
      have hE2 := hE1.later hb2
      have HC2 : Hid (P2 c2 p2) := hc2
      clear hc2 rd2 st1 hE1
      have F1' := F1.later hb2
      have d0 := HZ1.out
      by_cases n41 : c1 = 41
      · have q1 : (c1 == 41) = true := beq_of n41
        rcases hr2 with ⟨hz2, v2, rfl, o2⟩ | ⟨hz2, g2, rfl, F2⟩
        · obtain ⟨a2, k2, rfl, r2⟩ := o2.readsC
          go_wp2_with fail
          refine (codeFault_any F1' hE2).mono ?_
          rintro e w3 ⟨rfl, hb3⟩
          have hB3 := hB2.trans (hb3.mono hB2.size)
          have st3 := st2.later hb3
          have hE3 := hE2.later hb3
          obtain ⟨x0, x1, x2⟩ := st3.cells
          obtain ⟨y0, y1, y2⟩ := st3.frozen
          go_wp2_with fail
          have st9 := (st3.set (.bool false) (.slice none 0 0) (.slice none 0 0)).cells
          refine bodyPost_ret (v := .tuple #[.agg #[.bool false, .slice none 0 0, .slice none 0 0], .iface 74 (.pointer (some ⟨g1, 0, none⟩))]) (by simp [results, Tryz.results9, go_sem, st9]) rfl ?_
          have hF9 := F1'.later hb3
          exact ⟨c1, p1, c2, p2, c1, _, HC1.out, HC2.out, Or.inl ⟨n41, n41, rfl⟩, Or.inr ⟨HZ1.out, g1, rfl, hF9.inn (in3 _ _ _ _ _) (hF9.ne_st st3)⟩, below_in hB3 (in3 _ _ _ _ _) (Nat.le_refl _) (Nat.le_refl _)⟩
        · go_wp2_with fail
          refine (codeFault_any F1' hE2).mono ?_
          rintro e w3 ⟨rfl, hb3⟩
          have hB3 := hB2.trans (hb3.mono hB2.size)
          have st3 := st2.later hb3
          have hE3 := hE2.later hb3
          obtain ⟨x0, x1, x2⟩ := st3.cells
          obtain ⟨y0, y1, y2⟩ := st3.frozen
          go_wp2_with fail
          have st9 := (st3.set (.bool false) (.slice none 0 0) (.slice none 0 0)).cells
          refine bodyPost_ret (v := .tuple #[.agg #[.bool false, .slice none 0 0, .slice none 0 0], .iface 74 (.pointer (some ⟨g1, 0, none⟩))]) (by simp [results, Tryz.results9, go_sem, st9]) rfl ?_
          have hF9 := F1'.later hb3
          exact ⟨c1, p1, c2, p2, c1, _, HC1.out, HC2.out, Or.inl ⟨n41, n41, rfl⟩, Or.inr ⟨HZ1.out, g1, rfl, hF9.inn (in3 _ _ _ _ _) (hF9.ne_st st3)⟩, below_in hB3 (in3 _ _ _ _ _) (Nat.le_refl _) (Nat.le_refl _)⟩
      · have q1 : (c1 == 41) = false := beq_no n41
        rcases hr2 with ⟨hz2, v2, rfl, o2⟩ | ⟨hz2, g2, rfl, F2⟩
        · obtain ⟨a2, k2, rfl, r2⟩ := o2.readsC
          have HZ2 : Hid (c2 = 0) := hz2
          have d2 := hz2
          clear hz2
          by_cases hD : N2 = 0
          · have wl : (((words (N2)).length : Int) == 0) = true := beq_of (by rw [hD, show words 0 = [] from dig_zero _]; rfl)
            have HD0 : Hid (N2 = 0) := hD
            clear hD
            go_wp2_with fail
            refine (codeFault_any F1' hE2).mono ?_
            rintro e w3 ⟨rfl, hb3⟩
            have hB3 := hB2.trans (hb3.mono hB2.size)
            have st3 := st2.later hb3
            have hE3 := hE2.later hb3
            go_wp2_with fail
            refine (codeNil_any _).mono ?_
            rintro e w4 ⟨rfl, hb4⟩
            have hB4 := hB3.trans (hb4.mono hB3.size)
            have st4 := st3.later hb4
            obtain ⟨x0, x1, x2⟩ := st4.cells
            go_wp2_with fail
            refine (wrapF_any _ _ _).mono ?_
            rintro e w5 ⟨g5, rfl, F5, hb5⟩
            have hB5 := hB4.trans (hb5.mono hB4.size)
            have st5 := st4.later hb5
            obtain ⟨x0, x1, x2⟩ := st5.cells
            obtain ⟨y0, y1, y2⟩ := st5.frozen
            go_wp2_with fail
            have st9 := (st5.set (.bool false) (.slice none 0 0) (.slice none 0 0)).cells
            refine bodyPost_ret (v := .tuple #[.agg #[.bool false, .slice none 0 0, .slice none 0 0], .iface 74 (.pointer (some ⟨g5, 0, none⟩))]) (by simp [results, Tryz.results9, go_sem, st9]) rfl ?_
            have hF9 := F5
            exact ⟨c1, p1, c2, p2, 50, _, HC1.out, HC2.out, Or.inr (Or.inr (Or.inl ⟨by omega, by omega, HD0.out, rfl, rfl⟩)), Or.inr ⟨by omega, g5, rfl, hF9.inn (in3 _ _ _ _ _) (hF9.ne_st st5)⟩, below_in hB5 (in3 _ _ _ _ _) (Nat.le_refl _) (Nat.le_refl _)⟩
          · have wl : (((words (N2)).length : Int) == 0) = false := beq_no (by
              intro h
              exact hD ((words_nil nn2).mp (by omega)))
            go_wp2_with fail
            refine (codeFault_any F1' hE2).mono ?_
            rintro e w3 ⟨rfl, hb3⟩
            have hB3 := hB2.trans (hb3.mono hB2.size)
            have st3 := st2.later hb3
            have hE3 := hE2.later hb3
            go_wp2_with fail
            refine (codeNil_any _).mono ?_
            rintro e w4 ⟨rfl, hb4⟩
            have hB4 := hB3.trans (hb4.mono hB3.size)
            have st4 := st3.later hb4
            obtain ⟨x0, x1, x2⟩ := st4.cells
            obtain ⟨y0, y1, y2⟩ := st4.frozen
            go_wp2_with fail
            have st9 := (st4.set (.bool false) (.slice none 0 0) (.slice none 0 0)).cells
            refine bodyPost_ret (v := .tuple #[.agg #[.bool false, .slice none 0 0, .slice none 0 0], .iface 74 (.pointer (some ⟨g1, 0, none⟩))]) (by simp [results, Tryz.results9, go_sem, st9]) rfl ?_
            have hF9 := (F1'.later hb3).later hb4
            exact ⟨c1, p1, c2, p2, c1, _, HC1.out, HC2.out, Or.inr (Or.inr (Or.inr (Or.inl ⟨n41, HZ1.out, by omega, fun h => hD h.2, rfl, rfl⟩))), Or.inr ⟨HZ1.out, g1, rfl, hF9.inn (in3 _ _ _ _ _) (hF9.ne_st st4)⟩, below_in hB4 (in3 _ _ _ _ _) (Nat.le_refl _) (Nat.le_refl _)⟩
        · by_cases m41 : c2 = 41
          · have q2 : (c2 == 41) = true := beq_of m41
            go_wp2_with fail
            refine (codeFault_any F1' hE2).mono ?_
            rintro e w3 ⟨rfl, hb3⟩
            have hB3 := hB2.trans (hb3.mono hB2.size)
            have st3 := st2.later hb3
            have hE3 := hE2.later hb3
            go_wp2_with fail
            refine (codeFault_any (F2.later hb3) hE3).mono ?_
            rintro e w4 ⟨rfl, hb4⟩
            have hB4 := hB3.trans (hb4.mono hB3.size)
            have st4 := st3.later hb4
            obtain ⟨x0, x1, x2⟩ := st4.cells
            obtain ⟨y0, y1, y2⟩ := st4.frozen
            go_wp2_with fail
            have st9 := (st4.set (.bool false) (.slice none 0 0) (.slice none 0 0)).cells
            refine bodyPost_ret (v := .tuple #[.agg #[.bool false, .slice none 0 0, .slice none 0 0], .iface 74 (.pointer (some ⟨g2, 0, none⟩))]) (by simp [results, Tryz.results9, go_sem, st9]) rfl ?_
            have hF9 := (F2.later hb3).later hb4
            exact ⟨c1, p1, c2, p2, c2, _, HC1.out, HC2.out, Or.inr (Or.inl ⟨by omega, m41, m41, rfl⟩), Or.inr ⟨hz2, g2, rfl, hF9.inn (in3 _ _ _ _ _) (hF9.ne_st st4)⟩, below_in hB4 (in3 _ _ _ _ _) (Nat.le_refl _) (Nat.le_refl _)⟩
          · have q2 : (c2 == 41) = false := beq_no m41
            go_wp2_with fail
            refine (codeFault_any F1' hE2).mono ?_
            rintro e w3 ⟨rfl, hb3⟩
            have hB3 := hB2.trans (hb3.mono hB2.size)
            have st3 := st2.later hb3
            have hE3 := hE2.later hb3
            go_wp2_with fail
            refine (codeFault_any (F2.later hb3) hE3).mono ?_
            rintro e w4 ⟨rfl, hb4⟩
            have hB4 := hB3.trans (hb4.mono hB3.size)
            have st4 := st3.later hb4
            obtain ⟨x0, x1, x2⟩ := st4.cells
            obtain ⟨y0, y1, y2⟩ := st4.frozen
            go_wp2_with fail
            have st9 := (st4.set (.bool false) (.slice none 0 0) (.slice none 0 0)).cells
            refine bodyPost_ret (v := .tuple #[.agg #[.bool false, .slice none 0 0, .slice none 0 0], .iface 74 (.pointer (some ⟨g1, 0, none⟩))]) (by simp [results, Tryz.results9, go_sem, st9]) rfl ?_
            have hF9 := (F1'.later hb3).later hb4
            exact ⟨c1, p1, c2, p2, c1, _, HC1.out, HC2.out, Or.inr (Or.inr (Or.inr (Or.inl ⟨n41, HZ1.out, m41, fun h => hz2 h.1, rfl, rfl⟩))), Or.inr ⟨HZ1.out, g1, rfl, hF9.inn (in3 _ _ _ _ _) (hF9.ne_st st4)⟩, below_in hB4 (in3 _ _ _ _ _) (Nat.le_refl _) (Nat.le_refl _)⟩
  · rw [if_pos rfl] at rd2
    go_enter Tryz.func9, Tryz.ntmps9
    go_wp2_with fail
    refine (hpre _).mono ?_
    rintro e w' ⟨rfl, rfl⟩
    go_wp2_with fail
    refine (hcut _).mono ?_
    rintro e wc ⟨rfl, hgc⟩
    have hbc := hb0.trans (hgc.2.mono hb0.size)
    have stc := st0.later hgc.2
    have hEc := hE.later hbc
    clear hpre hcut
    go_wp2_with fail
    refine (rd1 _ hEc).mono ?_
    rintro e w1 ⟨c1, p1, hc1, hr1, hb1⟩
    have hB1 := hbc.trans (hb1.mono hbc.size)
    have st1 := stc.later hb1
    have hE1 := hEc.later hb1
    have HC1 : Hid (P1 c1 p1) := hc1
    clear hc1 rd1 stc hEc hE
    rcases hr1 with ⟨hz1, v1, rfl, o1⟩ | ⟨hz1, g1, rfl, F1⟩
    · obtain ⟨a1, k1, rfl, r1⟩ := o1.readsC
      have HZ1 : Hid (c1 = 0) := hz1
      clear hz1
      go_wp2_with fail
      refine (rd2 _ hE1).mono ?_
      rintro e w2 ⟨c2, p2, hc2, hr2, hb2⟩
      have hB2 := hB1.trans (hb2.mono hB1.size)
      have st2 := st1.later hb2
      have hE2 := hE1.later hb2
      have HC2 : Hid (P2 c2 p2) := hc2
      clear hc2 rd2 st1 hE1
      have d0 := HZ1.out
      rcases hr2 with ⟨hz2, v2, rfl, o2⟩ | ⟨hz2, g2, rfl, F2⟩
      · obtain ⟨a2, k2, rfl, r2⟩ := o2.readsC
        have HZ2 : Hid (c2 = 0) := hz2
        have d2 := hz2
        clear hz2
        by_cases hD : N2 = 0
        · have wl : (((words (N2)).length : Int) == 0) = true := beq_of (by rw [hD, show words 0 = [] from dig_zero _]; rfl)
          have HD0 : Hid (N2 = 0) := hD
          clear hD
          go_wp2_with fail
          refine (codeNil_any _).mono ?_
          rintro e w3 ⟨rfl, hb3⟩
          have hB3 := hB2.trans (hb3.mono hB2.size)
          have st3 := st2.later hb3
          have hE3 := hE2.later hb3
          go_wp2_with fail
          refine (codeNil_any _).mono ?_
          rintro e w4 ⟨rfl, hb4⟩
          have hB4 := hB3.trans (hb4.mono hB3.size)
          have st4 := st3.later hb4
          obtain ⟨x0, x1, x2⟩ := st4.cells
          go_wp2_with fail
          refine (wrapF_any _ _ _).mono ?_
          rintro e w5 ⟨g5, rfl, F5, hb5⟩
          have hB5 := hB4.trans (hb5.mono hB4.size)
          have st5 := st4.later hb5
          obtain ⟨x0, x1, x2⟩ := st5.cells
          obtain ⟨y0, y1, y2⟩ := st5.frozen
          go_wp2_with fail
          have st9 := (st5.set (.bool false) (.slice none 0 0) (.slice none 0 0)).cells
          refine bodyPost_ret (v := .tuple #[.agg #[.bool false, .slice none 0 0, .slice none 0 0], .iface 74 (.pointer (some ⟨g5, 0, none⟩))]) (by simp [results, Tryz.results9, go_sem, st9]) rfl ?_
          have hF9 := F5
          exact ⟨c1, p1, c2, p2, 50, _, HC1.out, HC2.out, Or.inr (Or.inr (Or.inl ⟨by omega, by omega, HD0.out, rfl, rfl⟩)), Or.inr ⟨by omega, g5, rfl, hF9.inn (in3 _ _ _ _ _) (hF9.ne_st st5)⟩, below_in hB5 (in3 _ _ _ _ _) (Nat.le_refl _) (Nat.le_refl _)⟩
        · have wl : (((words (N2)).length : Int) == 0) = false := beq_no (by
            intro h
            exact hD ((words_nil nn2).mp (by omega)))
          go_wp2_with fail
          refine (codeNil_any _).mono ?_
          rintro e w3 ⟨rfl, hb3⟩
          have hB3 := hB2.trans (hb3.mono hB2.size)
          have st3 := st2.later hb3
          have hE3 := hE2.later hb3
          go_wp2_with fail
          refine (codeNil_any _).mono ?_
          rintro e w4 ⟨rfl, hb4⟩
          have hB4 := hB3.trans (hb4.mono hB3.size)
          have st4 := st3.later hb4
          have r1' := (((r1.later hb2).later hb3).later hb4)
          have r2' := ((r2.later hb3).later hb4)
          go_wp2_with fail
          refine (rlow_any (neg := neg) r1' r2' ⟨Dg_words _, num_words nn1, by have := ln1 _ _ HC1.out HZ1.out; omega⟩ ⟨Dg_words _, num_words nn2, by have := ln2 _ _ HC2.out HZ2.out; omega⟩ (by omega) (by have := ln1 _ _ HC1.out HZ1.out; omega) (by have := ln2 _ _ HC2.out HZ2.out; omega)).mono ?_
          rintro e w5 ⟨s9, u1, u2, rfl, hR, hb5⟩
          obtain ⟨a9, n9, m9, b9, l9, d9, rfl, rfl, _⟩ := hR.opens
          have hB5 := hB4.trans (hb5.mono hB4.size)
          have st5 := st4.later hb5
          obtain ⟨x0, x1, x2⟩ := st5.cells
          obtain ⟨y0, y1, y2⟩ := st5.frozen
          go_wp2_with fail
          have st9 := (st5.set (.bool s9) (.slice a9 n9 m9) (.slice b9 l9 d9)).cells
          refine bodyPost_ret (v := .tuple #[.agg #[.bool s9, .slice a9 n9 m9, .slice b9 l9 d9], .nilIface]) (by simp [results, Tryz.results9, go_sem, st9]) rfl ?_
          have hsz := hB4.size
          have hlt := st4.lt
          exact ⟨c1, p1, c2, p2, 0, -1, HC1.out, HC2.out, Or.inr (Or.inr (Or.inr (Or.inr (Or.inr ⟨HZ1.out, HZ2.out, hD, rfl, rfl⟩)))), Or.inl ⟨rfl, _, _, _, rfl, (hR.inn (in3 _ _ _ _ _) hlt).lower hsz⟩, below_in hB5 (in3 _ _ _ _ _) (Nat.le_refl _) (Nat.le_refl _)⟩
      · by_cases m41 : c2 = 41
        · have q2 : (c2 == 41) = true := beq_of m41
          go_wp2_with fail
          refine (codeNil_any _).mono ?_
          rintro e w3 ⟨rfl, hb3⟩
          have hB3 := hB2.trans (hb3.mono hB2.size)
          have st3 := st2.later hb3
          have hE3 := hE2.later hb3
          go_wp2_with fail
          refine (codeFault_any (F2.later hb3) hE3).mono ?_
          rintro e w4 ⟨rfl, hb4⟩
          have hB4 := hB3.trans (hb4.mono hB3.size)
          have st4 := st3.later hb4
          obtain ⟨x0, x1, x2⟩ := st4.cells
          obtain ⟨y0, y1, y2⟩ := st4.frozen
          go_wp2_with fail
          have st9 := (st4.set (.bool false) (.slice none 0 0) (.slice none 0 0)).cells
          refine bodyPost_ret (v := .tuple #[.agg #[.bool false, .slice none 0 0, .slice none 0 0], .iface 74 (.pointer (some ⟨g2, 0, none⟩))]) (by simp [results, Tryz.results9, go_sem, st9]) rfl ?_
          have hF9 := (F2.later hb3).later hb4
          exact ⟨c1, p1, c2, p2, c2, _, HC1.out, HC2.out, Or.inr (Or.inl ⟨by omega, m41, m41, rfl⟩), Or.inr ⟨hz2, g2, rfl, hF9.inn (in3 _ _ _ _ _) (hF9.ne_st st4)⟩, below_in hB4 (in3 _ _ _ _ _) (Nat.le_refl _) (Nat.le_refl _)⟩
        · have q2 : (c2 == 41) = false := beq_no m41
          go_wp2_with fail
          refine (codeNil_any _).mono ?_
          rintro e w3 ⟨rfl, hb3⟩
          have hB3 := hB2.trans (hb3.mono hB2.size)
          have st3 := st2.later hb3
          have hE3 := hE2.later hb3
          go_wp2_with fail
          refine (codeFault_any (F2.later hb3) hE3).mono ?_
          rintro e w4 ⟨rfl, hb4⟩
          have hB4 := hB3.trans (hb4.mono hB3.size)
          have st4 := st3.later hb4
          obtain ⟨x0, x1, x2⟩ := st4.cells
          obtain ⟨y0, y1, y2⟩ := st4.frozen
          go_wp2_with fail
          have st9 := (st4.set (.bool false) (.slice none 0 0) (.slice none 0 0)).cells
          refine bodyPost_ret (v := .tuple #[.agg #[.bool false, .slice none 0 0, .slice none 0 0], .iface 74 (.pointer (some ⟨g2, 0, none⟩))]) (by simp [results, Tryz.results9, go_sem, st9]) rfl ?_
          have hF9 := (F2.later hb3).later hb4
          exact ⟨c1, p1, c2, p2, c2, _, HC1.out, HC2.out, Or.inr (Or.inr (Or.inr (Or.inr (Or.inl ⟨HZ1.out, hz2, m41, rfl, rfl⟩)))), Or.inr ⟨hz2, g2, rfl, hF9.inn (in3 _ _ _ _ _) (hF9.ne_st st4)⟩, below_in hB4 (in3 _ _ _ _ _) (Nat.le_refl _) (Nat.le_refl _)⟩
    · have HZ1 : Hid (c1 ≠ 0) := hz1
      go_wp2_with fail
      refine (rd2 _ hE1).mono ?_
      rintro e w2 ⟨c2, p2, hc2, hr2, hb2⟩
      have hB2 := hB1.trans (hb2.mono hB1.size)
      have st2 := st1.later hb2
      have hE2 := hE1.later hb2
      have HC2 : Hid (P2 c2 p2) := hc2
      clear hc2 rd2 st1 hE1
      have F1' := F1.later hb2
      have d0 := HZ1.out
      by_cases n41 : c1 = 41
      · have q1 : (c1 == 41) = true := beq_of n41
        rcases hr2 with ⟨hz2, v2, rfl, o2⟩ | ⟨hz2, g2, rfl, F2⟩
        · obtain ⟨a2, k2, rfl, r2⟩ := o2.readsC
          go_wp2_with fail
          refine (codeFault_any F1' hE2).mono ?_
          rintro e w3 ⟨rfl, hb3⟩
          have hB3 := hB2.trans (hb3.mono hB2.size)
          have st3 := st2.later hb3
          have hE3 := hE2.later hb3
          obtain ⟨x0, x1, x2⟩ := st3.cells
          obtain ⟨y0, y1, y2⟩ := st3.frozen
          go_wp2_with fail
          have st9 := (st3.set (.bool false) (.slice none 0 0) (.slice none 0 0)).cells
          refine bodyPost_ret (v := .tuple #[.agg #[.bool false, .slice none 0 0, .slice none 0 0], .iface 74 (.pointer (some ⟨g1, 0, none⟩))]) (by simp [results, Tryz.results9, go_sem, st9]) rfl ?_
          have hF9 := F1'.later hb3
          exact ⟨c1, p1, c2, p2, c1, _, HC1.out, HC2.out, Or.inl ⟨n41, n41, rfl⟩, Or.inr ⟨HZ1.out, g1, rfl, hF9.inn (in3 _ _ _ _ _) (hF9.ne_st st3)⟩, below_in hB3 (in3 _ _ _ _ _) (Nat.le_refl _) (Nat.le_refl _)⟩
        · go_wp2_with fail
          refine (codeFault_any F1' hE2).mono ?_
          rintro e w3 ⟨rfl, hb3⟩
          have hB3 := hB2.trans (hb3.mono hB2.size)
          have st3 := st2.later hb3
          have hE3 := hE2.later hb3
          obtain ⟨x0, x1, x2⟩ := st3.cells
          obtain ⟨y0, y1, y2⟩ := st3.frozen
          go_wp2_with fail
          have st9 := (st3.set (.bool false) (.slice none 0 0) (.slice none 0 0)).cells
          refine bodyPost_ret (v := .tuple #[.agg #[.bool false, .slice none 0 0, .slice none 0 0], .iface 74 (.pointer (some ⟨g1, 0, none⟩))]) (by simp [results, Tryz.results9, go_sem, st9]) rfl ?_
          have hF9 := F1'.later hb3
          exact ⟨c1, p1, c2, p2, c1, _, HC1.out, HC2.out, Or.inl ⟨n41, n41, rfl⟩, Or.inr ⟨HZ1.out, g1, rfl, hF9.inn (in3 _ _ _ _ _) (hF9.ne_st st3)⟩, below_in hB3 (in3 _ _ _ _ _) (Nat.le_refl _) (Nat.le_refl _)⟩
      · have q1 : (c1 == 41) = false := beq_no n41
        rcases hr2 with ⟨hz2, v2, rfl, o2⟩ | ⟨hz2, g2, rfl, F2⟩
        · obtain ⟨a2, k2, rfl, r2⟩ := o2.readsC
          have HZ2 : Hid (c2 = 0) := hz2
          have d2 := hz2
          clear hz2
          by_cases hD : N2 = 0
          · have wl : (((words (N2)).length : Int) == 0) = true := beq_of (by rw [hD, show words 0 = [] from dig_zero _]; rfl)
            have HD0 : Hid (N2 = 0) := hD
            clear hD
            go_wp2_with fail
            refine (codeFault_any F1' hE2).mono ?_
            rintro e w3 ⟨rfl, hb3⟩
            have hB3 := hB2.trans (hb3.mono hB2.size)
            have st3 := st2.later hb3
            have hE3 := hE2.later hb3
            go_wp2_with fail
            refine (codeNil_any _).mono ?_
            rintro e w4 ⟨rfl, hb4⟩
            have hB4 := hB3.trans (hb4.mono hB3.size)
            have st4 := st3.later hb4
            obtain ⟨x0, x1, x2⟩ := st4.cells
            go_wp2_with fail
            refine (wrapF_any _ _ _).mono ?_
            rintro e w5 ⟨g5, rfl, F5, hb5⟩
            have hB5 := hB4.trans (hb5.mono hB4.size)
            have st5 := st4.later hb5
            obtain ⟨x0, x1, x2⟩ := st5.cells
            obtain ⟨y0, y1, y2⟩ := st5.frozen
            go_wp2_with fail
            have st9 := (st5.set (.bool false) (.slice none 0 0) (.slice none 0 0)).cells
            refine bodyPost_ret (v := .tuple #[.agg #[.bool false, .slice none 0 0, .slice none 0 0], .iface 74 (.pointer (some ⟨g5, 0, none⟩))]) (by simp [results, Tryz.results9, go_sem, st9]) rfl ?_
            have hF9 := F5
            exact ⟨c1, p1, c2, p2, 50, _, HC1.out, HC2.out, Or.inr (Or.inr (Or.inl ⟨by omega, by omega, HD0.out, rfl, rfl⟩)), Or.inr ⟨by omega, g5, rfl, hF9.inn (in3 _ _ _ _ _) (hF9.ne_st st5)⟩, below_in hB5 (in3 _ _ _ _ _) (Nat.le_refl _) (Nat.le_refl _)⟩
          · have wl : (((words (N2)).length : Int) == 0) = false := beq_no (by
              intro h
              exact hD ((words_nil nn2).mp (by omega)))
            go_wp2_with fail
            refine (codeFault_any F1' hE2).mono ?_
            rintro e w3 ⟨rfl, hb3⟩
            have hB3 := hB2.trans (hb3.mono hB2.size)
            have st3 := st2.later hb3
            have hE3 := hE2.later hb3
            go_wp2_with fail
            refine (codeNil_any _).mono ?_
            rintro e w4 ⟨rfl, hb4⟩
            have hB4 := hB3.trans (hb4.mono hB3.size)
            have st4 := st3.later hb4
            obtain ⟨x0, x1, x2⟩ := st4.cells
            obtain ⟨y0, y1, y2⟩ := st4.frozen
            go_wp2_with fail
            have st9 := (st4.set (.bool false) (.slice none 0 0) (.slice none 0 0)).cells
            refine bodyPost_ret (v := .tuple #[.agg #[.bool false, .slice none 0 0, .slice none 0 0], .iface 74 (.pointer (some ⟨g1, 0, none⟩))]) (by simp [results, Tryz.results9, go_sem, st9]) rfl ?_
            have hF9 := (F1'.later hb3).later hb4
            exact ⟨c1, p1, c2, p2, c1, _, HC1.out, HC2.out, Or.inr (Or.inr (Or.inr (Or.inl ⟨n41, HZ1.out, by omega, fun h => hD h.2, rfl, rfl⟩))), Or.inr ⟨HZ1.out, g1, rfl, hF9.inn (in3 _ _ _ _ _) (hF9.ne_st st4)⟩, below_in hB4 (in3 _ _ _ _ _) (Nat.le_refl _) (Nat.le_refl _)⟩
        · by_cases m41 : c2 = 41
          · have q2 : (c2 == 41) = true := beq_of m41
            go_wp2_with fail
            refine (codeFault_any F1' hE2).mono ?_
            rintro e w3 ⟨rfl, hb3⟩
            have hB3 := hB2.trans (hb3.mono hB2.size)
            have st3 := st2.later hb3
            have hE3 := hE2.later hb3
            go_wp2_with fail
            refine (codeFault_any (F2.later hb3) hE3).mono ?_
            rintro e w4 ⟨rfl, hb4⟩
            have hB4 := hB3.trans (hb4.mono hB3.size)
            have st4 := st3.later hb4
            obtain ⟨x0, x1, x2⟩ := st4.cells
            obtain ⟨y0, y1, y2⟩ := st4.frozen
            go_wp2_with fail
            have st9 := (st4.set (.bool false) (.slice none 0 0) (.slice none 0 0)).cells
            refine bodyPost_ret (v := .tuple #[.agg #[.bool false, .slice none 0 0, .slice none 0 0], .iface 74 (.pointer (some ⟨g2, 0, none⟩))]) (by simp [results, Tryz.results9, go_sem, st9]) rfl ?_
            have hF9 := (F2.later hb3).later hb4
            exact ⟨c1, p1, c2, p2, c2, _, HC1.out, HC2.out, Or.inr (Or.inl ⟨by omega, m41, m41, rfl⟩), Or.inr ⟨hz2, g2, rfl, hF9.inn (in3 _ _ _ _ _) (hF9.ne_st st4)⟩, below_in hB4 (in3 _ _ _ _ _) (Nat.le_refl _) (Nat.le_refl _)⟩
          · have q2 : (c2 == 41) = false := beq_no m41
            go_wp2_with fail
            refine (codeFault_any F1' hE2).mono ?_
            rintro e w3 ⟨rfl, hb3⟩
            have hB3 := hB2.trans (hb3.mono hB2.size)
            have st3 := st2.later hb3
            have hE3 := hE2.later hb3
            go_wp2_with fail
            refine (codeFault_any (F2.later hb3) hE3).mono ?_
            rintro e w4 ⟨rfl, hb4⟩
            have hB4 := hB3.trans (hb4.mono hB3.size)
            have st4 := st3.later hb4
            obtain ⟨x0, x1, x2⟩ := st4.cells
            obtain ⟨y0, y1, y2⟩ := st4.frozen
            go_wp2_with fail
            have st9 := (st4.set (.bool false) (.slice none 0 0) (.slice none 0 0)).cells
            refine bodyPost_ret (v := .tuple #[.agg #[.bool false, .slice none 0 0, .slice none 0 0], .iface 74 (.pointer (some ⟨g1, 0, none⟩))]) (by simp [results, Tryz.results9, go_sem, st9]) rfl ?_
            have hF9 := (F1'.later hb3).later hb4
            exact ⟨c1, p1, c2, p2, c1, _, HC1.out, HC2.out, Or.inr (Or.inr (Or.inr (Or.inl ⟨n41, HZ1.out, m41, fun h => hz2 h.1, rfl, rfl⟩))), Or.inr ⟨HZ1.out, g1, rfl, hF9.inn (in3 _ _ _ _ _) (hF9.ne_st st4)⟩, below_in hB4 (in3 _ _ _ _ _) (Nat.le_refl _) (Nat.le_refl _)⟩

end Go.Proofs.YtopcdpeepchgfacGreatDoor
