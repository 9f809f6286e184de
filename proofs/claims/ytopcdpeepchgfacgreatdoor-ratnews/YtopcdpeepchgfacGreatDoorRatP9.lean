/- plumblaw05.texts. -/
import Derived.Test.YtopcdpeepchgfacGreatDoorRatP8
namespace Go.Proofs.YtopcdpeepchgfacGreatDoor
open Go.ChangeShapes Go.WideShapes Go.ChangeAt Go.RowKit
open Na Ar
set_option linter.unusedVariables false
set_option linter.unusedSimpArgs false
section
variable {w : World} {s : Bool} {a b : Option Addr} {n c m d : Nat} {xs ys : List Int}
namespace Na
theorem digEnd_any' (s : ByteArray) (a : Nat) (ha : a ≤ s.size) : ∃ e, DigEnd s a e := by
  have : ∀ k, k ≤ s.size - a → (∃ e, DigEnd s a e) ∨ ∀ j, a ≤ j → j < a + k → dgt s j < 10 := by
    intro k
    induction k with
    | zero => exact fun _ => Or.inr fun j h1 h2 => by omega
    | succ k ih =>
      intro hk
      rcases ih (by omega) with h | h
      · exact Or.inl h
      · by_cases q : dgt s (a + k) < 10
        · right
          intro j h1 h2
          by_cases e : j < a + k
          · exact h j h1 e
          · have : j = a + k := by omega
            rw [this]; exact q
        · left
          exact ⟨a + k, by omega, by omega, h, fun _ => by omega⟩
  rcases this (s.size - a) (Nat.le_refl _) with h | h
  · exact h
  · exact ⟨s.size, ha, Nat.le_refl _, fun j h1 h2 => h j h1 (by omega), fun h => by omega⟩
theorem digEnd_uniq {s : ByteArray} {a e e' : Nat} (h : DigEnd s a e) (h' : DigEnd s a e') : e = e' := by
  obtain ⟨a1, a2, a3, a4⟩ := h
  obtain ⟨b1, b2, b3, b4⟩ := h'
  rcases Nat.lt_trichotomy e e' with l | l | l
  · have := a4 (by omega); have := b3 e a1 l; omega
  · exact l
  · have := b4 (by omega); have := a3 e' b1 l; omega
theorem rspec_any {s : ByteArray} {f : Nat} {neg : Bool} (hF : FromIs s f neg) (hs : s.size ≤ 4000) : ∃ code p N D, RSpec s f code p N D := by
  have hf : f ≤ s.size := by rcases hF with ⟨rfl, _, h, _⟩ | ⟨rfl, _⟩ <;> omega
  obtain ⟨e1, h1⟩ := digEnd_any' s f hf
  have d := h1
  obtain ⟨d1, d2, d3, d4⟩ := d
  by_cases a1 : e1 = f
  · exact ⟨41, f, 0, 0, e1, h1, Or.inl ⟨a1, rfl, rfl⟩⟩
  · by_cases b1 : e1 < s.size
    · by_cases c1 : s.get! e1 = 47
      · obtain ⟨e2, h2⟩ := digEnd_any' s (e1 + 1) (by omega)
        have g := h2
        obtain ⟨g1, g2, g3, g4⟩ := g
        by_cases a2 : e2 = e1 + 1
        · exact ⟨41, e2, 0, 0, e1, h1, Or.inr (Or.inr (Or.inr ⟨by omega, b1, c1, e2, h2, Or.inl ⟨a2, rfl, rfl⟩⟩))⟩
        · by_cases b2 : e2 < s.size
          · exact ⟨41, e2, 0, 0, e1, h1, Or.inr (Or.inr (Or.inr ⟨by omega, b1, c1, e2, h2, Or.inr (Or.inl ⟨by omega, b2, rfl, rfl⟩)⟩))⟩
          · by_cases z : numB (s.extract (e1 + 1) e2) 10 (s.extract (e1 + 1) e2).size = 0
            · exact ⟨50, (e1 : Int) + 1, 0, 0, e1, h1, Or.inr (Or.inr (Or.inr ⟨by omega, b1, c1, e2, h2, Or.inr (Or.inr (Or.inl ⟨by omega, by omega, z, rfl, rfl⟩))⟩))⟩
            · exact ⟨0, -1, _, _, e1, h1, Or.inr (Or.inr (Or.inr ⟨by omega, b1, c1, e2, h2, Or.inr (Or.inr (Or.inr ⟨by omega, by omega, z, rfl, rfl, rfl, rfl⟩))⟩))⟩
      · exact ⟨41, e1, 0, 0, e1, h1, Or.inr (Or.inl ⟨by omega, b1, c1, rfl, rfl⟩)⟩
    · exact ⟨0, -1, _, _, e1, h1, Or.inr (Or.inr (Or.inl ⟨by omega, by omega, rfl, rfl, rfl, rfl⟩))⟩
theorem rspec_uniq {s : ByteArray} {f : Nat} {code p N D code' p' N' D' : Int} (h : RSpec s f code p N D) (h' : RSpec s f code' p' N' D') : code = code' ∧ p = p' ∧ (code = 0 → N = N' ∧ D = D') := by
  obtain ⟨e1, h1, h⟩ := h
  obtain ⟨e1', h1', h'⟩ := h'
  have e := digEnd_uniq h1 h1'
  subst e
  rcases h with ⟨r1, rfl, rfl⟩ | ⟨r1, r2, r3, rfl, rfl⟩ | ⟨r1, r2, rfl, rfl, rfl, rfl⟩ | ⟨r1, r2, r3, e2, g, hR⟩ <;> rcases h' with ⟨s1, rfl, rfl⟩ | ⟨s1, s2, s3, rfl, rfl⟩ | ⟨s1, s2, rfl, rfl, rfl, rfl⟩ | ⟨s1, s2, s3, e2', g', hR'⟩
  · exact ⟨rfl, rfl, fun h => by omega⟩
  · omega
  · omega
  · omega
  · omega
  · exact ⟨rfl, rfl, fun h => by omega⟩
  · omega
  · exact absurd s3 r3
  · omega
  · omega
  · exact ⟨rfl, rfl, fun _ => ⟨rfl, rfl⟩⟩
  · omega
  · omega
  · exact absurd r3 s3
  · omega
  · have e := digEnd_uniq g g'
    subst e
    rcases hR with ⟨t1, rfl, rfl⟩ | ⟨t1, t2, rfl, rfl⟩ | ⟨t1, t2, t3, rfl, rfl⟩ | ⟨t1, t2, t3, rfl, rfl, rfl, rfl⟩ <;> rcases hR' with ⟨u1, rfl, rfl⟩ | ⟨u1, u2, rfl, rfl⟩ | ⟨u1, u2, u3, rfl, rfl⟩ | ⟨u1, u2, u3, rfl, rfl, rfl, rfl⟩
    · exact ⟨rfl, rfl, fun h => by omega⟩
    · omega
    · omega
    · omega
    · omega
    · exact ⟨rfl, rfl, fun h => by omega⟩
    · omega
    · omega
    · omega
    · omega
    · exact ⟨rfl, rfl, fun h => by omega⟩
    · exact absurd t3 u3
    · omega
    · omega
    · exact absurd u3 t3
    · exact ⟨rfl, rfl, fun _ => ⟨rfl, rfl⟩⟩
theorem lt_num {z : ByteArray} (hs : z.size ≤ 4000) (hd : ∀ i, i < z.size → dgt z i < 10) : Lt (numB z 10 z.size) 4096 := by
  have h1 := numB_lt (s := z) (b := 10) (by omega) hd
  have h2 := pow10 z.size
  have h3 := wpow_mono (show z.size ≤ 4096 by omega)
  exact ⟨numB_nonneg10 z, by omega⟩
theorem rspec_lt {s : ByteArray} {f : Nat} {p N D : Int} (hs : s.size ≤ 4000) (h : RSpec s f 0 p N D) : Lt N 4096 ∧ Lt D 4096 ∧ 0 < D := by
  obtain ⟨e1, ⟨d1, d2, d3, d4⟩, h⟩ := h
  have top : f < e1 → Lt (numB (s.extract f e1) 10 (s.extract f e1).size) 4096 := fun hl => by
    have ee := ext_size s (show f ≤ e1 by omega) (show e1 ≤ s.size by omega)
    exact lt_num (by omega) fun i hi => by rw [ext_dgt s (by omega)]; exact d3 _ (by omega) (by omega)
  rcases h with ⟨r1, r2, _⟩ | ⟨r1, r2, r3, r4, _⟩ | ⟨r1, r2, _, _, rfl, rfl⟩ | ⟨r1, r2, r3, e2, ⟨g1, g2, g3, g4⟩, hR⟩
  · omega
  · omega
  · exact ⟨top r1, lt_one.mono (by omega), by omega⟩
  · rcases hR with ⟨t1, t2, _⟩ | ⟨t1, t2, t3, _⟩ | ⟨t1, t2, t3, t4, _⟩ | ⟨t1, t2, t3, _, _, rfl, rfl⟩
    · omega
    · omega
    · omega
    · have ee := ext_size s (show e1 + 1 ≤ e2 by omega) (show e2 ≤ s.size by omega)
      have l2 := lt_num (z := s.extract (e1 + 1) e2) (by omega) fun i hi => by rw [ext_dgt s (by omega)]; exact g3 _ (by omega) (by omega)
      have := l2.1
      exact ⟨top r1, l2, by omega⟩
end Na
/-- what both Parses make of one text -/
theorem bothParse {t : ByteArray} (ht : t.size ≤ 4000) : ∃ (R : Except Int Rat) (p : Int),
    (∀ w : World, ErrVar w → Calls Tryz.prog 9 #[.string t] w fun e w' => ∃ s a n c b m d, Od w' s a n c b m d R ∧ Below w.heap.size w w' ∧ ((leR R = 0 ∧ e = .returned (.tuple #[.agg #[.bool s, .slice a n c, .slice b m d], .nilIface])) ∨ (leR R ≠ 0 ∧ ∃ g, e = .returned (.tuple #[.agg #[.bool s, .slice a n c, .slice b m d], .iface 74 (.pointer (some ⟨g, 0, none⟩))]) ∧ FaultAt w' g p (leR R)))) ∧
    (∀ w : World, Calls Tryz.prog 53 #[.string t] w fun e w' => ∃ s a n c b m d, Od w' s a n c b m d R ∧ Below w.heap.size w w' ∧ e = .returned (.tuple #[.agg #[.bool s, .slice a n c, .slice b m d], .int .i64 (leR R), .int .i64 p])) := by
  obtain ⟨f, neg, hF, hf⟩ := fromIs_any t
  obtain ⟨above, below, q, hp, hP⟩ := rParse_any hF ht
  have hle := hp.le
  have hbl : below.size ≤ 4000 := by
    rcases hp.rest with ⟨_, _, e⟩ | ⟨_, _, _, e, _⟩
    · rw [e]; decide
    · rw [e]; omega
  -- one answer of the document's, to name it by
  obtain ⟨code, p, N, D, hR⟩ := rspec_any hF ht
  by_cases h0 : code = 0
  · subst h0
    have hN : Lt N 4096 ∧ Lt D 4096 ∧ 0 < D := rspec_lt ht hR
    have sz : Sz (mkR neg N D) 4096 := Sz.mkR hN.1 hN.2.1 hN.2.2
    refine ⟨.ok (mkR neg N D), p, ?_, ?_⟩
    · intro w hE
      refine (hP w hE).mono ?_
      rintro e w' ⟨c1, p1, c2, p2, code', p', k1, k2, hA, hr, hb⟩
      obtain ⟨rfl, rfl, hND⟩ := agree hp ht k1 k2 rfl hA hR
      obtain ⟨e1, e2⟩ := hND rfl
      rcases hr with ⟨_, s9, v1, v2, rfl, hRt⟩ | ⟨hne, _⟩
      · rw [e1, e2] at hRt
        obtain ⟨a', n', c', b', m', d', rfl, rfl, od⟩ := od_ok hRt sz
        exact ⟨_, _, _, _, _, _, _, od, hb, Or.inl ⟨rfl, rfl⟩⟩
      · exact absurd rfl hne
    · intro w
      refine (r5Parse_any t hF ht w).mono ?_
      rintro e w' ⟨code', p', N', D', hR', hr, hb⟩
      obtain ⟨rfl, rfl, hND⟩ := rspec_uniq hR' hR
      obtain ⟨rfl, rfl⟩ := hND rfl
      rcases hr with ⟨_, s9, v1, v2, rfl, hRt⟩ | ⟨hne, _⟩
      · obtain ⟨a', n', c', b', m', d', rfl, rfl, od⟩ := od_ok hRt sz
        exact ⟨_, _, _, _, _, _, _, od, hb, rfl⟩
      · exact absurd rfl hne
  · refine ⟨.error code, p, ?_, ?_⟩
    · intro w hE
      refine (hP w hE).mono ?_
      rintro e w' ⟨c1, p1, c2, p2, code', p', k1, k2, hA, hr, hb⟩
      obtain ⟨rfl, rfl, _⟩ := agree hp ht k1 k2 rfl hA hR
      rcases hr with ⟨hc, _⟩ | ⟨hne, g, rfl, hFt⟩
      · exact absurd hc h0
      · exact ⟨_, _, _, _, _, _, _, od_err _ _, hb, Or.inr ⟨h0, g, rfl, hFt⟩⟩
    · intro w
      refine (r5Parse_any t hF ht w).mono ?_
      rintro e w' ⟨code', p', N', D', hR', hr, hb⟩
      obtain ⟨rfl, rfl, _⟩ := rspec_uniq hR' hR
      rcases hr with ⟨hc, _⟩ | ⟨hne, rfl⟩
      · exact absurd hc h0
      · exact ⟨_, _, _, _, _, _, _, od_err _ _, hb, rfl⟩
set_option maxHeartbeats 12800000 in
set_option maxRecDepth 100000 in
theorem texts_go (h : An5 w s a n c b m d xs ys 12) (u t : ByteArray) (hut : (400 < (u.size : Int) ∧ u.extract 0 400 = t) ∨ (¬ 400 < (u.size : Int) ∧ u = t)) (ht : t.size ≤ 400) (hu : u.size ≤ maxLen) (hE : ErrVar w) :
    Calls Tryz.prog 29 #[.agg #[.bool s, .slice a n c, .slice b m d], .string u] w fun e w' => e = .returned (.bool true) ∧ Below w.heap.size w w' := by
  have hb0 := alloc_below (w := w) (.cells #[.bool s, .slice a n c, .slice b m d] 25)
  have st0 := st_new w (.bool s) (.slice a n c) (.slice b m d) 25
  have h0 := h.later hb0
  have hE0 := hE.later hb0
  obtain ⟨R, p, pP, rP⟩ := bothParse (t := t) (by omega)
  obtain ⟨w0, hw0⟩ : ∃ w0, w0 = w.alloc (.cells #[.bool s, .slice a n c, .slice b m d] 25) := ⟨_, rfl⟩
  rw [← hw0] at hb0 st0 h0 hE0
  have tx1 := rText_any h0
  have tx2 := fun w1 (hb : Below w0.heap.size w0 w1) => r5Text_any (h0.later hb)
  obtain ⟨x0, x1, x2⟩ := st0.cells
  obtain ⟨g, hg⟩ : ∃ g, g = w.heap.size := ⟨_, rfl⟩
  have HG : Hid (w.heap.size = g) := hg.symm
  rw [← hg] at st0 hb0 x0 x1 x2
  have HS : g ≤ w0.heap.size := by rw [hg]; exact hb0.size
  unfold maxLen at hu
  clear h hE
  rcases hut with ⟨q1, q2⟩ | ⟨q1, q2⟩
  case' inl => have q3 : (400 : Int) ≤ (u.size : Int) := by omega
  case' inr => subst q2
  all_goals
    go_enter Tryz.func29, Tryz.ntmps29
    go_upto_region 3 with (fail)
    rw [← hw0, ← hg]
    clear hw0 hg
    go_wp2_with fail
    refine tx1.mono ?_
    rintro e w1 ⟨t1, e1, rfl, T1, hb1⟩
    obtain ⟨x0, x1, x2⟩ := (st0.later hb1).cells
    go_wp2_with fail
    refine (tx2 _ hb1).mono ?_
    rintro e w2 ⟨t2, e2, rfl, T2, hb2⟩
    obtain ⟨rfl, rfl⟩ := textR_uniq T1 T2
    have hB2 := hb1.trans (hb2.mono hb1.size)
    obtain ⟨x0, x1, x2⟩ := (st0.later hB2).cells
    clear T1 T2 tx1 tx2
    go_wp2_with fail
    refine (pP _ (hE0.later hB2)).mono ?_
    rintro e w3 ⟨s3, a3, n3, c3, b3, m3, d3, o3, hb3, hr3⟩
    have hB3 := hB2.trans (hb3.mono hB2.size)
    rcases hr3 with ⟨z3, rfl⟩ | ⟨z3, gf, rfl, F3⟩
    · go_upto_region 6 with (fail)
      have tx := st_new w3 (.bool s3) (.slice a3 n3 c3) (.slice b3 m3 d3) 25
      have ha3 := alloc_below (w := w3) (.cells #[.bool s3, .slice a3 n3 c3, .slice b3 m3 d3] 25)
      have ox := o3.later ha3
      have HX := hB3.trans (ha3.mono hB3.size)
      generalize w3.alloc (.cells #[.bool s3, .slice a3 n3 c3, .slice b3 m3 d3] 25) = z1 at *
      obtain ⟨gx, hgx⟩ : ∃ gx, gx = w3.heap.size := ⟨_, rfl⟩
      rw [← hgx] at tx ⊢
      clear hgx ha3
      go_wp2_with fail
      refine (rP _).mono ?_
      rintro e w4 ⟨s4, a4, n4, c4, b4, m4, d4, o4, hb4, rfl⟩
      have H4 := HX.trans (hb4.mono HX.size)
      go_upto_region 7 with (fail)
      have ty := st_new w4 (.bool s4) (.slice a4 n4 c4) (.slice b4 m4 d4) 25
      have ha4 := alloc_below (w := w4) (.cells #[.bool s4, .slice a4 n4 c4, .slice b4 m4 d4] 25)
      have oy := o4.later ha4
      have tx0 : gx < w4.heap.size := (tx.later hb4).lt
      replace ox := (ox.later hb4).later ha4
      replace tx := (tx.later hb4).later ha4
      have HY := H4.trans (ha4.mono H4.size)
      generalize w4.alloc (.cells #[.bool s4, .slice a4 n4 c4, .slice b4 m4 d4] 25) = z2 at *
      obtain ⟨gy, hgy⟩ : ∃ gy, gy = w4.heap.size := ⟨_, rfl⟩
      rw [← hgy] at ty tx0 ⊢
      have nxy : ¬ gx = gy := by omega
      have nyx : ¬ gy = gx := by omega
      clear hgy ha4
      obtain ⟨i0, i1, i2⟩ := tx.cells
      obtain ⟨j0, j1, j2⟩ := ty.cells
      have sameT : (t1.toList == t1.toList) = true := by simp
      have sameE : (e1 != e1) = false := by simp
      go_wp2_with fail
      refine (one_yes ox oy).mono ?_
      rintro e w5 ⟨rfl, hb5⟩
      have HZ := HY.trans (hb5.mono HY.size)
      have z9 : (leR R == 0) = true := beq_of z3
      go_wp2_with fail
      go_ret
      rw [HG.out]
      exact ⟨rfl, hb0.trans (HZ.mono HS)⟩
    · go_upto_region 6 with (fail)
      have tx := st_new w3 (.bool s3) (.slice a3 n3 c3) (.slice b3 m3 d3) 25
      have ha3 := alloc_below (w := w3) (.cells #[.bool s3, .slice a3 n3 c3, .slice b3 m3 d3] 25)
      have ox := o3.later ha3
      have HX := hB3.trans (ha3.mono hB3.size)
      replace F3 := F3.later ha3
      generalize w3.alloc (.cells #[.bool s3, .slice a3 n3 c3, .slice b3 m3 d3] 25) = z1 at *
      obtain ⟨gx, hgx⟩ : ∃ gx, gx = w3.heap.size := ⟨_, rfl⟩
      rw [← hgx] at tx ⊢
      clear hgx ha3
      go_wp2_with fail
      refine (rP _).mono ?_
      rintro e w4 ⟨s4, a4, n4, c4, b4, m4, d4, o4, hb4, rfl⟩
      have H4 := HX.trans (hb4.mono HX.size)
      go_upto_region 7 with (fail)
      have ty := st_new w4 (.bool s4) (.slice a4 n4 c4) (.slice b4 m4 d4) 25
      have ha4 := alloc_below (w := w4) (.cells #[.bool s4, .slice a4 n4 c4, .slice b4 m4 d4] 25)
      have oy := o4.later ha4
      have tx0 : gx < w4.heap.size := (tx.later hb4).lt
      replace ox := (ox.later hb4).later ha4
      replace tx := (tx.later hb4).later ha4
      have HY := H4.trans (ha4.mono H4.size)
      replace F3 := (F3.later hb4).later ha4
      generalize w4.alloc (.cells #[.bool s4, .slice a4 n4 c4, .slice b4 m4 d4] 25) = z2 at *
      obtain ⟨gy, hgy⟩ : ∃ gy, gy = w4.heap.size := ⟨_, rfl⟩
      rw [← hgy] at ty tx0 ⊢
      have nxy : ¬ gx = gy := by omega
      have nyx : ¬ gy = gx := by omega
      clear hgy ha4
      obtain ⟨i0, i1, i2⟩ := tx.cells
      obtain ⟨j0, j1, j2⟩ := ty.cells
      have sameT : (t1.toList == t1.toList) = true := by simp
      have sameE : (e1 != e1) = false := by simp
      go_wp2_with fail
      refine (one_yes ox oy).mono ?_
      rintro e w5 ⟨rfl, hb5⟩
      have HZ := HY.trans (hb5.mono HY.size)
      have z9 : (leR R == 0) = false := beq_no z3
      have F5 := F3.later hb5
      have E5 := hE0.later HZ
      have sameL : (leR R == leR R) = true := by simp
      have sameP : (p == p) = true := by simp
      go_wp2_with fail
      refine (codeFault_any F5 E5).mono ?_
      rintro e w6 ⟨rfl, hb6⟩
      have H6 := HZ.trans (hb6.mono HZ.size)
      go_wp2_with fail
      refine (placeFault_any (F5.later hb6) (E5.later hb6)).mono ?_
      rintro e w7 ⟨rfl, hb7⟩
      have H7 := H6.trans (hb7.mono H6.size)
      go_wp2_with fail
      go_ret
      rw [HG.out]
      exact ⟨rfl, hb0.trans (H7.mono HS)⟩
end
end Go.Proofs.YtopcdpeepchgfacGreatDoor
