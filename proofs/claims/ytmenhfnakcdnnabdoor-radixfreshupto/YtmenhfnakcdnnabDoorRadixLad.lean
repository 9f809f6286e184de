/- radix.ladder: squares of squares. -/
import Derived.Test.YtmenhfnakcdnnabDoorRadixLayR
namespace Go.Proofs.YtmenhfnakcdnnabDoor
open Go.ChangeShapes Go.WideShapes Go.ChangeAt Go.RowKit
open Na Ar
set_option linter.unusedVariables false
theorem Own.rowS {w : World} {base : Nat} {e : TypeId} {a : Option Addr} {n c : Nat} {xs : List Int} (h : Own .u64 w base e (.slice a n c) xs) : RowC w a n c xs := by
  obtain ⟨a', c', hv, hr⟩ := h.readsC
  simp only [Value.slice.injEq] at hv
  obtain ⟨rfl, rfl, rfl⟩ := hv
  exact hr
theorem info_su2 : (Tryd.prog.info? 22).map (fun i => (i.zero, i.size, i.bytes)) = some (some (.slice none 0 0), 1, 24) := by kernel_rfl
theorem one_list2 {a : Option Addr} {n c : Nat} : ∀ u ∈ [Value.slice a n c], u.oneCell' = true := by
  intro u hu; simp at hu; subst hu; rfl
theorem Own.keptT {w w' : World} {base : Nat} {e : TypeId} {v : Value} {xs : List Int} {row : Option Nat} (h : Own .u64 w base e v xs) (hg : w.grownBy w' row) (hne : v.ownBlock = none ∨ v.ownBlock ≠ row) : Own .u64 w' base e v xs := World.ownsRow.kept h hg hne
theorem Own.apartT {w : World} {base base' : Nat} {e e' : TypeId} {v l : Value} {xs : List Int} {k : Nat} {us : List Value} (h : Own .u64 w base e v xs) (hl : w.ownsRow base' e' 1 l k us) (he : e ≠ e') : v.ownBlock = none ∨ v.ownBlock ≠ l.ownBlock := by
  rcases h.2 with ⟨h0, _⟩ | ⟨g, c, cur, hv, _, hc, _⟩
  · left; rw [h0]; rfl
  · right
    rcases hl.2 with ⟨h0, _⟩ | ⟨g', c', cur', hv', _, hc', _⟩
    · rw [hv, h0]; simp [Value.ownBlock]
    · rw [hv, hv']
      simp only [Value.ownBlock, ne_eq, Option.some.injEq]
      intro hh
      subst hh
      rw [hc] at hc'
      simp only [Option.some.injEq, Obj.cells.injEq] at hc'
      exact he hc'.2.1
/-- r lists: S and its squares, one of the other -/
def Rungs (w : World) (lo : Nat) (S : Int) (v : Value) (r : Nat) : Prop := ∃ vs : List Value, vs.length = r ∧ w.ownsRow lo 22 1 v r vs ∧ ∀ j, j < r → ∃ u, vs[j]? = some u ∧ Own .u64 w lo 35 u (words (S ^ (2 ^ j)))
theorem rungs_nil (w : World) (lo : Nat) (S : Int) : Rungs w lo S (.slice none 0 0) 0 := ⟨[], rfl, World.ownsRow_nil w lo _ 1, fun j hj => by omega⟩
theorem Rungs.later {w w' : World} {lo : Nat} {S : Int} {v : Value} {r : Nat} (h : Rungs w lo S v r) (hb : Below w.heap.size w w') : Rungs w' lo S v r := by
  obtain ⟨vs, h1, h2, h3⟩ := h
  refine ⟨vs, h1, ?_, fun j hj => ?_⟩
  · refine ⟨h2.1, ?_⟩
    rcases h2.2 with q | ⟨g, c, cur, hv, hb2, hc, rest⟩
    · exact Or.inl q
    · refine Or.inr ⟨g, c, cur, hv, hb2, ?_, rest⟩
      have hlt : g < w.heap.size := by
        by_cases q : g < w.heap.size
        · exact q
        · simp [Array.getElem?_eq_none (Nat.le_of_not_lt q)] at hc
      rw [hb.block g hlt]; exact hc
  · obtain ⟨u, a1, a2⟩ := h3 j hj
    exact ⟨u, a1, a2.later hb⟩
theorem rungs_rows {w : World} {lo : Nat} {S : Int} {v : Value} {r : Nat} (h : Rungs w lo S v r) : ∃ a rc, v = .slice a r rc ∧ r ≤ rc ∧ rc ≤ maxLen ∧ RowsC w a r ((List.range r).map fun i => words (S ^ (2 ^ i))) := by
  obtain ⟨vs, h1, h2, h3⟩ := h
  rcases h2.2 with ⟨hv, hn⟩ | ⟨g, c, cur, hv, hb2, hc, q1, q2, q3, q4⟩
  · subst hn
    exact ⟨none, 0, hv, Nat.le_refl _, Nat.zero_le _, by simp, Or.inl rfl⟩
  · refine ⟨some ⟨g, 0, none⟩, c, hv, q1, q2, by simp, Or.inr ⟨g, 0, rfl, ?_, fun i hi => ?_⟩⟩
    · by_cases q : g < w.heap.size
      · exact q
      · simp [Array.getElem?_eq_none (Nat.le_of_not_lt q)] at hc
    · obtain ⟨u, a1, a2⟩ := h3 i hi
      have e : ((List.range r).map fun i => words (S ^ (2 ^ i))).getD i [] = words (S ^ (2 ^ i)) := by
        simp [List.getD_eq_getElem?_getD, hi]
      rw [e]
      obtain ⟨ai, ci, hu, hrow⟩ := a2.readsC
      have hcell := World.ownsRow.cells h2 (show v.ownBlock = some g by rw [hv]; rfl) i u a1
      have ea : (⟨g, 0, none⟩ : Addr).add i = ⟨g, 0 + i, none⟩ := by
        unfold Addr.add
        by_cases hi0 : i = 0
        · subst hi0; simp
        · simp [hi0]
      rw [ea, hu] at hcell
      exact ⟨ai, ci, hcell, hrow⟩
theorem Rungs.next {wr w1 : World} {lo : Nat} {S : Int} {v v' p : Value} {i : Nat} {o : Obj} (h : Rungs wr lo S v i) (hp : Own .u64 wr lo 35 p (words (S ^ (2 ^ i)))) {vs : List Value} (hvl : vs.length = i) (hvo : wr.ownsRow lo 22 1 v i vs) (hvs : ∀ j, j < i → ∃ u, vs[j]? = some u ∧ Own .u64 wr lo 35 u (words (S ^ (2 ^ j))))
    (hown' : w1.ownsRow lo 22 1 v' (i + 1) (vs ++ [p])) (hg : (wr.alloc o).grownBy w1 v.ownBlock) : Rungs w1 lo S v' (i + 1) ∧ Own .u64 w1 lo 35 p (words (S ^ (2 ^ i))) := by
  have hal : Below wr.heap.size wr (wr.alloc o) := (Below.refl _ _).alloc (Nat.le_refl _) o
  have key : ∀ {u : Value} {l : List Int}, Own .u64 wr lo 35 u l → Own .u64 w1 lo 35 u l := fun {u l} hu => by
    have ap := hu.apartT hvo (by decide)
    exact (hu.later hal).keptT hg ap
  refine ⟨⟨vs ++ [p], by simp [hvl], hown', fun j hj => ?_⟩, key hp⟩
  by_cases hlt : j < i
  · obtain ⟨u, a1, a2⟩ := hvs j hlt
    exact ⟨u, by rw [List.getElem?_append_left (by omega)]; exact a1, key a2⟩
  · have : j = i := by omega
    subst this
    exact ⟨p, by rw [List.getElem?_append_right (by omega), hvl]; simp, key hp⟩
namespace Na
/-- two to the 262144: the first number too long -/
def topB : Int := 2 ^ 262144
theorem topB_ge {k : Nat} (h : k ≤ 262144) : (2 : Int) ^ k ≤ topB := p2mono h
theorem sq_next' (S : Int) (i : Nat) : S ^ (2 ^ i) * S ^ (2 ^ i) = S ^ (2 ^ (i + 1)) := by rw [← Int.pow_add]; congr 1; rw [Nat.pow_succ]; omega
theorem rung_few {S : Int} {i β : Nat} (hS : 2 ≤ S) (h : S ^ (2 ^ i) < 2 ^ (β + 1)) (hβ : β + 1 ≤ 262144) : i ≤ 17 := by
  have a : (2 : Int) ^ (2 ^ i) ≤ S ^ (2 ^ i) := ipow_base (by omega) hS _
  have b : 2 ^ i < β + 1 := by
    by_cases g : 2 ^ i < β + 1
    · exact g
    · have : (2 : Int) ^ (β + 1) ≤ 2 ^ (2 ^ i) := p2mono (by omega)
      omega
  by_cases g : i ≤ 17
  · exact g
  · have : 2 ^ 18 ≤ 2 ^ i := Nat.pow_le_pow_right (by omega) (by omega)
    omega
theorem bits_words {P : Int} {β : Nat} (h0 : 0 ≤ P) (h : P < 2 ^ β) (hβ : β ≤ 262144) : (words P).length ≤ 4096 := by
  have l : Lt P 4096 := by
    refine ⟨h0, Int.lt_of_lt_of_le h ?_⟩
    rw [wpow2]
    exact p2mono (by omega)
  exact l.len
end Na
set_option maxHeartbeats 3200000 in
set_option maxRecDepth 100000 in
theorem ladder_any {a : Option Addr} {n c1 : Nat} {X S : Int} {w : World} (hx : RowC w a n c1 (words X)) (hX : 0 < X) (hn : n ≤ 4096) (hS2 : 2 ≤ S) (hS : S < 18446744073709551616) :
    Calls Tryd.prog 42 #[.slice a n c1, .int .u64 S] w fun e w' => ∃ v r, e = .returned v ∧ Rungs w' w.heap.size S v r ∧ r ≤ 18 ∧ X < S ^ (2 ^ r) ∧ (∀ j, j < r → S ^ (2 ^ j) < topB) ∧ Below w.heap.size w w' := by
  obtain ⟨i_su, hi_su, hz0_su, hz1_su, hz2_su⟩ := info_parts info_su2
  have dX := Dg_words X
  have nX := num_words (Int.le_of_lt hX)
  obtain ⟨N1, hN1, x1, x2⟩ := bits_some hX
  obtain ⟨N, hN⟩ : ∃ N, N = N1 + 1 := ⟨_, rfl⟩
  have hNb : N ≤ 262144 := by
    have := bits_le (N := X) (k := 4096) (Int.le_of_lt hX) (by have := val_lt (B := 18446744073709551616) (by omega) dX; rw [val_words (by omega)] at this; refine Int.lt_of_lt_of_le this (wpow_mono ?_); rw [hx.1.1]; exact hn)
    omega
  have hNX : X < 2 ^ N := by rw [hN]; exact x2
  have hbx := natBits_any hx dX (by omega)
  have hcast : ((N1 : Int) + 1) = (N : Int) := by omega
  rw [nX, hN1, hcast] at hbx
  have hfr := fun w => natFrom_any (v := S) ⟨by omega, hS⟩ w
  clear hN1 x1 x2 hN hcast
  go_enter Tryd.func42, Tryd.ntmps42
  go_wp2_with fail
  refine hbx.mono ?_
  rintro e w1 ⟨rfl, hb1⟩
  go_wp2_with fail
  refine (hfr _).mono ?_
  rintro e w2 ⟨p0, rfl, hp0, hb2⟩
  have hB2 := hb1.trans (hb2.mono hb1.size)
  have hp0' := hp0.wider hb1.size
  have e0 : S ^ (2 ^ 0) = S := by rw [Nat.pow_zero, Int.pow_one]
  have hS0 : S < topB := by
    have a : (2 : Int) ^ 64 ≤ topB := topB_ge (by omega)
    have e : (2 : Int) ^ 64 = 18446744073709551616 := by decide
    omega
  clear hbx hfr hp0
  go_wp2
  go_loopg [5, 7] 20 (fun g v p wr => ∃ i : Nat, g = 20 - i ∧ i ≤ 18 ∧ Rungs wr w.heap.size S v i ∧ Own .u64 wr w.heap.size 35 p (words (S ^ (2 ^ i))) ∧ S ^ (2 ^ i) < topB ∧ Hid (∀ j, j < i → S ^ (2 ^ j) < topB) ∧ Below w.heap.size w wr)
  case atStart => exact ⟨0, rfl, by omega, rungs_nil _ _ _, by rw [e0]; exact hp0', by rw [e0]; exact hS0, fun j hj => by omega, hB2⟩
  case round =>
    obtain ⟨i, hg, hi, hrs, hpo, hpb, hjs, hnx⟩ := hrel
    clear hp0' hB2 hS0 e0
    have hP0 : 0 < S ^ (2 ^ i) := Int.pow_pos (by omega)
    obtain ⟨β, hβ, b1, b2⟩ := bits_some hP0
    obtain ⟨vs, hvl, hvo, hvs⟩ := hrs
    have hfew := fun q => rung_few (i := i) (β := β) hS2 b2 q
    have hnext := fun {w9 : World} {v9 : Value} {o9 : Obj} q1 q2 => Rungs.next (wr := wr) (w1 := w9) (v' := v9) (o := o9) (i := i) ⟨vs, hvl, hvo, hvs⟩ hpo hvl hvo hvs q1 q2
    have hsq := sq_next' S i
    have hlen := Lt.len (k := 4096) (N := S ^ (2 ^ i)) ⟨Int.le_of_lt hP0, by rw [wpow2]; exact hpb⟩
    have hpo2 := hpo
    obtain ⟨pa, pc, rfl, hpr⟩ := hpo.readsC
    have dP := Dg_words (S ^ (2 ^ i))
    have nP := num_words (Int.le_of_lt hP0)
    have hbt := fun (w : World) (h : RowC w pa (words (S ^ (2 ^ i))).length pc (words (S ^ (2 ^ i)))) => bits0_any h dP (by omega)
    rw [nP, hβ] at hbt
    have hmul := fun (w : World) (h : RowC w pa (words (S ^ (2 ^ i))).length pc (words (S ^ (2 ^ i)))) => natMul_any h h dP dP (by omega) (by omega)
    rw [nP] at hmul
    obtain ⟨P, hP⟩ : ∃ P, P = S ^ (2 ^ i) := ⟨_, rfl⟩
    have HP : Hid (P = S ^ (2 ^ i)) := hP
    rw [← hP] at hP0 b1 b2 hsq hlen hpr hbt hmul hpo hpo2 hpb ⊢
    have hsz := hnx.size
    clear hP hβ dP nP
    generalize hpl : (words P).length = pl at *
    have HPL : Hid ((words (S ^ (2 ^ i))).length = pl) := by show _ = _; rw [← HP.out]; exact hpl
    clear hpl
    by_cases hle : β + 1 ≤ N
    · have hi17 := hfew (by omega)
      have hbc := hbt wr hpr
      have hle' : (β : Int) + 1 ≤ (N : Int) := by omega
      have hall : Hid (∀ j, j < i + 1 → S ^ (2 ^ j) < topB) := fun j hj => by
        by_cases q : j < i
        · exact hjs.out j q
        · have : j = i := by omega
          rw [this, ← HP.out]; exact hpb
      go_wp2_with fail
      refine hbc.mono ?_
      rintro e w' ⟨rfl, rfl⟩
      clear hbc
      go_wp2_with (at_builtin; refine wpList_append_own _ rfl _ _ 45 rfl w.heap.size 22 i_su (.slice none 0 0) 1 24 Tryd.underlying45 hi_su hz0_su hz1_su hz2_su rfl (by decide) _ _ _ rfl (hvo.alloc _) ⟨wr.heap.size, 0, none⟩ 1 1 [.slice pa pl pc] rfl rfl one_new one_list2 (by unfold maxLen; omega) (by omega) (by simp; omega) ?_)
      intro v' w4 hown' hgrow _
      obtain ⟨hrs4, hpo4⟩ := hnext (by rw [HPL.out]; exact hown') hgrow
      rw [HPL.out, ← HP.out] at hpo4
      have hb4 := grow_below hsz hvo hnx hgrow
      have hpr4 := hpo4.rowS
      have hbc4 := hbt w4 hpr4
      have hm4 := hmul w4 hpr4
      clear hown' hgrow hnext hbt hmul hvo hvs hpo hpo2 hpr hnx hpo4
      by_cases hbrk : N < 2 * (β + 1) - 1
      · have hbrk' : (N : Int) < 2 * ((β : Int) + 1) - 1 := by omega
        have HX : Hid (X < S ^ (2 ^ (i + 1))) := by
          show _ < _
          rw [← hsq]
          have a1 : (2 : Int) ^ N ≤ 2 ^ (β + β) := p2mono (by omega)
          rw [Int.pow_add] at a1
          have a2 := Int.mul_le_mul b1 b1 (Int.le_of_lt (p2pos β)) (Int.le_of_lt hP0)
          omega
        clear hm4 hpr4
        go_wp2_with fail
        refine hbc4.mono ?_
        rintro e w' ⟨rfl, rfl⟩
        clear hbc4
        go_wp2
        go_ret
        exact ⟨v', i + 1, rfl, hrs4, by omega, HX.out, hall.out, hb4⟩
      · have hbrk' : ¬ (N : Int) < 2 * ((β : Int) + 1) - 1 := by omega
        have hPP : P * P < 2 ^ (β + 1 + (β + 1)) := by
          rw [Int.pow_add]
          exact Int.lt_of_le_of_lt (Int.mul_le_mul_of_nonneg_left (Int.le_of_lt b2) (Int.le_of_lt hP0)) (Int.mul_lt_mul_of_pos_right b2 (p2pos (β + 1)))
        have hPP0 : 0 ≤ P * P := Int.mul_nonneg (Int.le_of_lt hP0) (Int.le_of_lt hP0)
        have hfit := res_fits (bits_words hPP0 hPP (by omega))
        rw [hfit.1, hfit.2, hsq] at hm4
        have HT : Hid (S ^ (2 ^ (i + 1)) < topB) := by
          show _ < _
          rw [← hsq]
          have := topB_ge (k := β + 1 + (β + 1)) (by omega)
          omega
        clear hfit
        go_wp2_with fail
        refine hbc4.mono ?_
        rintro e w' ⟨rfl, rfl⟩
        clear hbc4
        go_wp2_with fail
        refine hm4.mono ?_
        rintro e w5 ⟨v5, rfl, hv5, hb5⟩
        have hv6 := hv5.wider hb4.size
        have hrs5 := hrs4.later hb5
        have hB5 := hb4.trans (hb5.mono hb4.size)
        clear hm4 hv5 hrs4
        go_wp2
        go_roundg (20 - (i + 1))
        case measure => omega
        case rel => exact ⟨i + 1, rfl, by omega, hrs5, hv6, HT.out, hall.out, hB5⟩
    · have hle' : ¬ (β : Int) + 1 ≤ (N : Int) := by omega
      have hbc := hbt wr hpr
      have HX : Hid (X < S ^ (2 ^ i)) := by
        show _ < _
        rw [← HP.out]
        have a1 : (2 : Int) ^ N ≤ 2 ^ β := p2mono (by omega)
        omega
      have HR : Hid (Rungs wr w.heap.size S _ i) := ⟨vs, hvl, hvo, hvs⟩
      clear hnext hbt hmul hvs hpo hpo2 hpr
      go_wp2_with fail
      refine hbc.mono ?_
      rintro e w' ⟨rfl, rfl⟩
      clear hbc
      go_wp2
      go_ret
      exact ⟨_, i, rfl, HR.out, hi, HX.out, hjs.out, hnx⟩
end Go.Proofs.YtmenhfnakcdnnabDoor
