/- Text of any api.Rat: the program's and the document's. -/
import Derived.Test.YtopcdpeepchgfacGreatDoorRatP5
import Derived.Test.YtopcdpeepchgfacGreatDoorBaseI
namespace Go.Proofs.YtopcdpeepchgfacGreatDoor
open Go.ChangeShapes Go.WideShapes Go.ChangeAt Go.RowKit
open Na Ar
set_option linter.unusedVariables false
set_option linter.unusedSimpArgs false
/-- the text -/
def TextR (s : Bool) (xs ys : List Int) (t : ByteArray) (c : Int) : Prop :=
  (isR s xs ys = false ∧ t = ⟨#[]⟩ ∧ c = 51) ∨
  (isR s xs ys = true ∧ c = 0 ∧ ∃ t1 e1, TxIs (num xs) 10 t1 e1 ∧
    ((num ys = 1 ∧ t = (if s = true then (⟨#[45]⟩ : ByteArray) ++ t1 else t1)) ∨ (num ys ≠ 1 ∧ ∃ t2 e2, TxIs (num ys) 10 t2 e2 ∧ t = (if s = true then (⟨#[45]⟩ : ByteArray) ++ t1 else t1) ++ (⟨#[47]⟩ : ByteArray) ++ t2)))
theorem textR_uniq {s : Bool} {xs ys : List Int} {t t' : ByteArray} {c c' : Int} (h : TextR s xs ys t c) (h' : TextR s xs ys t' c') : t = t' ∧ c = c' := by
  rcases h with ⟨a1, a2, a3⟩ | ⟨a1, a2, t1, e1, h1, h2⟩ <;> rcases h' with ⟨b1, b2, b3⟩ | ⟨b1, b2, u1, f1, k1, k2⟩
  · exact ⟨a2.trans b2.symm, a3.trans b3.symm⟩
  · rw [a1] at b1; cases b1
  · rw [a1] at b1; cases b1
  · obtain ⟨rfl, rfl⟩ := txIs_uniq h1 k1
    refine ⟨?_, a2.trans b2.symm⟩
    rcases h2 with ⟨p1, p2⟩ | ⟨p1, t2, e2, p2, p3⟩ <;> rcases k2 with ⟨q1, q2⟩ | ⟨q1, u2, f2, q2, q3⟩
    · rw [p2, q2]
    · exact absurd p1 q1
    · exact absurd q1 p1
    · obtain ⟨rfl, rfl⟩ := txIs_uniq p2 q2
      rw [p3, q3]
section
variable {w : World} {s : Bool} {a b : Option Addr} {n c m d : Nat} {xs ys : List Int} {k : Nat}
theorem tx_size {X c : Int} {t : ByteArray} (h : TxIs X 10 t c) (h0 : 0 ≤ X) (h1 : X < 18446744073709551616 ^ 12) : t.size ≤ 1000 := by
  rcases h with ⟨a1, a2, a3⟩ | ⟨a1, a2, a3, a4⟩ | ⟨a1, a2, a3, ⟨p1, p2⟩ | ⟨p1, p2⟩⟩
  · rw [a2]; decide
  · rw [a3]; decide
  · rw [p2]; decide
  · obtain ⟨e, e1, e2⟩ := has_log (b := 10) (by omega) p1
    have hb := bytes_size (text_bytes p2 (by omega) (by omega) e1 e2)
    rw [laidD_length] at hb
    have h2 : (2 : Int) ^ e ≤ 10 ^ e := by
      clear e1 e2 hb
      induction e with
      | zero => simp
      | succ e ih =>
        rw [Int.pow_succ, Int.pow_succ]
        have := p2pos e
        exact Int.mul_le_mul ih (by omega) (by omega) (by omega)
    have h3 : (2 : Int) ^ e < 2 ^ 768 := by
      have : (18446744073709551616 : Int) ^ 12 = 2 ^ 768 := wpow2 12
      omega
    have h4 : ¬ 768 ≤ e := fun hc => by
      have := p2mono hc
      omega
    omega
theorem An5.ltx (h : An5 w s a n c b m d xs ys 12) : num xs < 18446744073709551616 ^ 12 := ((⟨h.wx, rfl, by have := h.lx; omega⟩ : Nm xs (num xs)).lt h.lx).2
theorem An5.lty (h : An5 w s a n c b m d xs ys 12) : num ys < 18446744073709551616 ^ 12 := ((⟨h.wy, rfl, by have := h.ly; omega⟩ : Nm ys (num ys)).lt h.ly).2
theorem den_nrm (h : isR s xs ys = true) : nrmB ys = true := by
  unfold isR at h
  simp only [Bool.and_eq_true, decide_eq_true_eq] at h
  exact h.1.1.1.2
theorem num_one1 : num [1] = 1 := (Nm.one (x := 1) (by omega)).num
theorem RowC.addr (h : RowC w b m d ys) (hm : 0 < m) : ∃ g o, b = some ⟨g, o, none⟩ := by
  obtain ⟨g, o, e, _⟩ := h.1.at hm
  exact ⟨g, o, e⟩
set_option maxHeartbeats 6400000 in
set_option maxRecDepth 100000 in
theorem rText_any (h : An5 w s a n c b m d xs ys 12) :
    Calls Tryz.prog 8 #[.agg #[.bool s, .slice a n c, .slice b m d]] w fun e w' => ∃ t c, e = .returned (.tuple #[.string t, .int .i64 c]) ∧ TextR s xs ys t c ∧ Below w.heap.size w w' := by
  have hb0 := alloc_below (w := w) (.cells #[.bool s, .slice a n c, .slice b m d] 25)
  have st0 := st_new w (.bool s) (.slice a n c) (.slice b m d) 25
  have hn : n ≤ 12 := by have := h.lx; have := h.nu.1.1; omega
  have hm : m ≤ 12 := by have := h.ly; have := h.de.1.1; omega
  have h0 := h.later hb0
  obtain ⟨x0, x1, x2⟩ := st0.cells
  cases hR : isR s xs ys
  · have ck := check_gen (K := 51) h0 (by omega) (by rw [hR]; rfl)
    go_enter Tryz.func8, Tryz.ntmps8
    go_wp2_with fail
    refine ck.mono ?_
    rintro e w1 ⟨rfl, hb1⟩
    go_wp2_with fail
    go_ret2
    exact ⟨_, _, rfl, Or.inl ⟨hR, rfl, rfl⟩, hb0.trans (hb1.mono hb0.size)⟩
  · have ck := check_gen (K := 0) h0 (by omega) (by rw [hR]; rfl)
    have tx1 := fun w1 (hb : Below _ _ w1) => textCode_any (b := 10) (h0.later hb).nu h.wx (by omega)
    have tx2 := fun w1 (hb : Below _ _ w1) => textCode_any (b := 10) (h0.later hb).de h.wy (by omega)
    have on := fun (B : Bool) (hB : decide (num ys = 1) = B) w1 (hb : Below _ _ w1) => isOne_any (B := B) (h0.later hb).de (A := num ys) ⟨h.wy, rfl, by have := h.ly; omega⟩ (by omega) hB
    by_cases hD : num ys = 1
    · cases s
      · go_enter Tryz.func8, Tryz.ntmps8
        go_wp2_with fail
        refine ck.mono ?_
        rintro e w1 ⟨rfl, hb1⟩
        obtain ⟨z0, z1, z2⟩ := (st0.later hb1).cells
        go_wp2_with fail
        refine (tx1 _ hb1).mono ?_
        rintro e w2 ⟨t1, e1, rfl, T1, hb2⟩
        have sz1 := tx_size T1 (num_nonneg h.wx) h.ltx
        have hB2 := hb1.trans (hb2.mono hb1.size)
        obtain ⟨u0, u1, u2⟩ := (st0.later hB2).cells
        go_wp2_with fail
        refine (on true (by simpa using hD) _ hB2).mono ?_
        rintro e w3 ⟨rfl, hb3⟩
        have hB3 := hB2.trans (hb3.mono hB2.size)
        obtain ⟨v0, v1, v2⟩ := (st0.later hB3).cells
        go_wp2_with fail
        go_ret2
        exact ⟨_, _, rfl, Or.inr ⟨hR, rfl, t1, e1, T1, Or.inl ⟨hD, rfl⟩⟩, hb0.trans (hB3.mono hb0.size)⟩
      · go_enter Tryz.func8, Tryz.ntmps8
        go_wp2_with fail
        refine ck.mono ?_
        rintro e w1 ⟨rfl, hb1⟩
        obtain ⟨z0, z1, z2⟩ := (st0.later hb1).cells
        go_wp2_with fail
        refine (tx1 _ hb1).mono ?_
        rintro e w2 ⟨t1, e1, rfl, T1, hb2⟩
        have sz1 := tx_size T1 (num_nonneg h.wx) h.ltx
        have hB2 := hb1.trans (hb2.mono hb1.size)
        obtain ⟨u0, u1, u2⟩ := (st0.later hB2).cells
        go_wp2_with fail
        refine (on true (by simpa using hD) _ hB2).mono ?_
        rintro e w3 ⟨rfl, hb3⟩
        have hB3 := hB2.trans (hb3.mono hB2.size)
        obtain ⟨v0, v1, v2⟩ := (st0.later hB3).cells
        go_wp2_with fail
        go_ret2
        exact ⟨_, _, rfl, Or.inr ⟨hR, rfl, t1, e1, T1, Or.inl ⟨hD, rfl⟩⟩, hb0.trans (hB3.mono hb0.size)⟩
    · cases s
      · go_enter Tryz.func8, Tryz.ntmps8
        go_wp2_with fail
        refine ck.mono ?_
        rintro e w1 ⟨rfl, hb1⟩
        obtain ⟨z0, z1, z2⟩ := (st0.later hb1).cells
        go_wp2_with fail
        refine (tx1 _ hb1).mono ?_
        rintro e w2 ⟨t1, e1, rfl, T1, hb2⟩
        have sz1 := tx_size T1 (num_nonneg h.wx) h.ltx
        have hB2 := hb1.trans (hb2.mono hb1.size)
        obtain ⟨u0, u1, u2⟩ := (st0.later hB2).cells
        go_wp2_with fail
        refine (on false (by simpa using hD) _ hB2).mono ?_
        rintro e w3 ⟨rfl, hb3⟩
        have hB3 := hB2.trans (hb3.mono hB2.size)
        obtain ⟨v0, v1, v2⟩ := (st0.later hB3).cells
        go_wp2_with fail
        refine (tx2 _ hB3).mono ?_
        rintro e w4 ⟨t2, e2, rfl, T2, hb4⟩
        have sz2 := tx_size T2 (num_nonneg h.wy) h.lty
        have hB4 := hB3.trans (hb4.mono hB3.size)
        go_wp2_with fail
        go_ret2
        exact ⟨_, _, rfl, Or.inr ⟨hR, rfl, t1, e1, T1, Or.inr ⟨hD, t2, e2, T2, rfl⟩⟩, hb0.trans (hB4.mono hb0.size)⟩
      · go_enter Tryz.func8, Tryz.ntmps8
        go_wp2_with fail
        refine ck.mono ?_
        rintro e w1 ⟨rfl, hb1⟩
        obtain ⟨z0, z1, z2⟩ := (st0.later hb1).cells
        go_wp2_with fail
        refine (tx1 _ hb1).mono ?_
        rintro e w2 ⟨t1, e1, rfl, T1, hb2⟩
        have sz1 := tx_size T1 (num_nonneg h.wx) h.ltx
        have hB2 := hb1.trans (hb2.mono hb1.size)
        obtain ⟨u0, u1, u2⟩ := (st0.later hB2).cells
        go_wp2_with fail
        refine (on false (by simpa using hD) _ hB2).mono ?_
        rintro e w3 ⟨rfl, hb3⟩
        have hB3 := hB2.trans (hb3.mono hB2.size)
        obtain ⟨v0, v1, v2⟩ := (st0.later hB3).cells
        go_wp2_with fail
        refine (tx2 _ hB3).mono ?_
        rintro e w4 ⟨t2, e2, rfl, T2, hb4⟩
        have sz2 := tx_size T2 (num_nonneg h.wy) h.lty
        have hB4 := hB3.trans (hb4.mono hB3.size)
        go_wp2_with fail
        go_ret2
        exact ⟨_, _, rfl, Or.inr ⟨hR, rfl, t1, e1, T1, Or.inr ⟨hD, t2, e2, T2, rfl⟩⟩, hb0.trans (hB4.mono hb0.size)⟩
set_option maxHeartbeats 6400000 in
set_option maxRecDepth 100000 in
theorem r5Text_any (h : An5 w s a n c b m d xs ys 12) :
    Calls Tryz.prog 52 #[.agg #[.bool s, .slice a n c, .slice b m d]] w fun e w' => ∃ t c, e = .returned (.tuple #[.string t, .int .i64 c]) ∧ TextR s xs ys t c ∧ Below w.heap.size w w' := by
  have hb0 := alloc_below (w := w) (.cells #[.bool s, .slice a n c, .slice b m d] 25)
  have st0 := st_new w (.bool s) (.slice a n c) (.slice b m d) 25
  have hn : n ≤ 12 := by have := h.lx; have := h.nu.1.1; omega
  have hm : m ≤ 12 := by have := h.ly; have := h.de.1.1; omega
  have h0 := h.later hb0
  obtain ⟨x0, x1, x2⟩ := st0.cells
  cases hR : isR s xs ys
  · have ck := ref5Check_gen (K := 51) h0 (by omega) (by rw [hR]; rfl)
    go_enter Tryz.func52, Tryz.ntmps52
    go_wp2_with fail
    refine ck.mono ?_
    rintro e w1 ⟨rfl, hb1⟩
    go_wp2_with fail
    go_ret2
    exact ⟨_, _, rfl, Or.inl ⟨hR, rfl, rfl⟩, hb0.trans (hb1.mono hb0.size)⟩
  · have ck := ref5Check_gen (K := 0) h0 (by omega) (by rw [hR]; rfl)
    have tx1 := fun w1 (hb : Below _ _ w1) => refTextCode_any (b := 10) (h0.later hb).nu h.wx (by omega)
    have tx2 := fun w1 (hb : Below _ _ w1) => refTextCode_any (b := 10) (h0.later hb).de h.wy (by omega)
    have hW := nrmB_words h.wy (den_nrm hR)
    have lm := h.de.1.1
    by_cases hD : num ys = 1
    · have hy : ys = [1] := by rw [← hW, hD]; exact words_one5
      subst hy
      have lm' : m = 1 := by simpa using lm.symm
      subst lm'
      obtain ⟨g, o, rfl⟩ := h.de.addr (by omega)
      cases s
      · go_enter Tryz.func52, Tryz.ntmps52
        go_wp2_with fail
        refine ck.mono ?_
        rintro e w1 ⟨rfl, hb1⟩
        obtain ⟨z0, z1, z2⟩ := (st0.later hb1).cells
        go_wp2_with fail
        refine (tx1 _ hb1).mono ?_
        rintro e w2 ⟨t1, e1, rfl, T1, hb2⟩
        have sz1 := tx_size T1 (num_nonneg h.wx) h.ltx
        have hB2 := hb1.trans (hb2.mono hb1.size)
        obtain ⟨u0, u1, u2⟩ := (st0.later hB2).cells
        have cl := (h0.later hB2).de.cell0
        go_wp2_with fail
        go_ret2
        exact ⟨_, _, rfl, Or.inr ⟨hR, rfl, t1, e1, T1, Or.inl ⟨hD, rfl⟩⟩, hb0.trans (hB2.mono hb0.size)⟩
      · go_enter Tryz.func52, Tryz.ntmps52
        go_wp2_with fail
        refine ck.mono ?_
        rintro e w1 ⟨rfl, hb1⟩
        obtain ⟨z0, z1, z2⟩ := (st0.later hb1).cells
        go_wp2_with fail
        refine (tx1 _ hb1).mono ?_
        rintro e w2 ⟨t1, e1, rfl, T1, hb2⟩
        have sz1 := tx_size T1 (num_nonneg h.wx) h.ltx
        have hB2 := hb1.trans (hb2.mono hb1.size)
        obtain ⟨u0, u1, u2⟩ := (st0.later hB2).cells
        have cl := (h0.later hB2).de.cell0
        go_wp2_with fail
        go_ret2
        exact ⟨_, _, rfl, Or.inr ⟨hR, rfl, t1, e1, T1, Or.inl ⟨hD, rfl⟩⟩, hb0.trans (hB2.mono hb0.size)⟩
    · by_cases h1 : m = 1
      · subst h1
        obtain ⟨y, hy⟩ : ∃ y, ys = [y] := by
          match ys, lm with
          | [y], _ => exact ⟨y, rfl⟩
        subst hy
        have hy1 : (y == 1) = false := beq_no (fun e => hD (by rw [e]; exact num_one1))
        obtain ⟨g, o, rfl⟩ := h.de.addr (by omega)
        cases s
        · go_enter Tryz.func52, Tryz.ntmps52
          go_wp2_with fail
          refine ck.mono ?_
          rintro e w1 ⟨rfl, hb1⟩
          obtain ⟨z0, z1, z2⟩ := (st0.later hb1).cells
          go_wp2_with fail
          refine (tx1 _ hb1).mono ?_
          rintro e w2 ⟨t1, e1, rfl, T1, hb2⟩
          have sz1 := tx_size T1 (num_nonneg h.wx) h.ltx
          have hB2 := hb1.trans (hb2.mono hb1.size)
          obtain ⟨u0, u1, u2⟩ := (st0.later hB2).cells
          have cl := (h0.later hB2).de.cell0
          go_wp2_with fail
          refine (tx2 _ hB2).mono ?_
          rintro e w4 ⟨t2, e2, rfl, T2, hb4⟩
          have sz2 := tx_size T2 (num_nonneg h.wy) h.lty
          have hB4 := hB2.trans (hb4.mono hB2.size)
          go_wp2_with fail
          go_ret2
          exact ⟨_, _, rfl, Or.inr ⟨hR, rfl, t1, e1, T1, Or.inr ⟨hD, t2, e2, T2, rfl⟩⟩, hb0.trans (hB4.mono hb0.size)⟩
        · go_enter Tryz.func52, Tryz.ntmps52
          go_wp2_with fail
          refine ck.mono ?_
          rintro e w1 ⟨rfl, hb1⟩
          obtain ⟨z0, z1, z2⟩ := (st0.later hb1).cells
          go_wp2_with fail
          refine (tx1 _ hb1).mono ?_
          rintro e w2 ⟨t1, e1, rfl, T1, hb2⟩
          have sz1 := tx_size T1 (num_nonneg h.wx) h.ltx
          have hB2 := hb1.trans (hb2.mono hb1.size)
          obtain ⟨u0, u1, u2⟩ := (st0.later hB2).cells
          have cl := (h0.later hB2).de.cell0
          go_wp2_with fail
          refine (tx2 _ hB2).mono ?_
          rintro e w4 ⟨t2, e2, rfl, T2, hb4⟩
          have sz2 := tx_size T2 (num_nonneg h.wy) h.lty
          have hB4 := hB2.trans (hb4.mono hB2.size)
          go_wp2_with fail
          go_ret2
          exact ⟨_, _, rfl, Or.inr ⟨hR, rfl, t1, e1, T1, Or.inr ⟨hD, t2, e2, T2, rfl⟩⟩, hb0.trans (hB4.mono hb0.size)⟩
      · have h1' : ((m : Int) == 1) = false := beq_no (by omega)
        cases s
        · go_enter Tryz.func52, Tryz.ntmps52
          go_wp2_with fail
          refine ck.mono ?_
          rintro e w1 ⟨rfl, hb1⟩
          obtain ⟨z0, z1, z2⟩ := (st0.later hb1).cells
          go_wp2_with fail
          refine (tx1 _ hb1).mono ?_
          rintro e w2 ⟨t1, e1, rfl, T1, hb2⟩
          have sz1 := tx_size T1 (num_nonneg h.wx) h.ltx
          have hB2 := hb1.trans (hb2.mono hb1.size)
          obtain ⟨u0, u1, u2⟩ := (st0.later hB2).cells
          go_wp2_with fail
          refine (tx2 _ hB2).mono ?_
          rintro e w4 ⟨t2, e2, rfl, T2, hb4⟩
          have sz2 := tx_size T2 (num_nonneg h.wy) h.lty
          have hB4 := hB2.trans (hb4.mono hB2.size)
          go_wp2_with fail
          go_ret2
          exact ⟨_, _, rfl, Or.inr ⟨hR, rfl, t1, e1, T1, Or.inr ⟨hD, t2, e2, T2, rfl⟩⟩, hb0.trans (hB4.mono hb0.size)⟩
        · go_enter Tryz.func52, Tryz.ntmps52
          go_wp2_with fail
          refine ck.mono ?_
          rintro e w1 ⟨rfl, hb1⟩
          obtain ⟨z0, z1, z2⟩ := (st0.later hb1).cells
          go_wp2_with fail
          refine (tx1 _ hb1).mono ?_
          rintro e w2 ⟨t1, e1, rfl, T1, hb2⟩
          have sz1 := tx_size T1 (num_nonneg h.wx) h.ltx
          have hB2 := hb1.trans (hb2.mono hb1.size)
          obtain ⟨u0, u1, u2⟩ := (st0.later hB2).cells
          go_wp2_with fail
          refine (tx2 _ hB2).mono ?_
          rintro e w4 ⟨t2, e2, rfl, T2, hb4⟩
          have sz2 := tx_size T2 (num_nonneg h.wy) h.lty
          have hB4 := hB2.trans (hb4.mono hB2.size)
          go_wp2_with fail
          go_ret2
          exact ⟨_, _, rfl, Or.inr ⟨hR, rfl, t1, e1, T1, Or.inr ⟨hD, t2, e2, T2, rfl⟩⟩, hb0.trans (hB4.mono hb0.size)⟩
end
end Go.Proofs.YtopcdpeepchgfacGreatDoor
