/- package rat: a Rat in memory; normal, isOne, Check, lowest, times, plus, New, Int, Sign. -/
import Derived.Test.YtceecgklgkiffaaGreatDoorRatMath
import Derived.Test.YtceecgklgkiffaaGreatDoorBaseD
import Derived.Test.YtceecgklgkiffaaGreatDoorFrMem
import Derived.Defers
import Derived.Recover
namespace Go.Proofs.YtceecgklgkiffaaGreatDoor
open Go.ChangeShapes Go.WideShapes Go.ChangeAt Go.RowKit
open Na Ar
set_option linter.unusedVariables false

/-- a struct of three fields in its block -/
def St (w : World) (g : Nat) (t : TypeId) (x y z : Value) : Prop := w.heap[g]? = some (.cells #[x, y, z] t (0, 0))
section
variable {w w' : World} {g : Nat} {t : TypeId} {x y z : Value}
theorem St.lt (h : St w g t x y z) : g < w.heap.size := by
  by_cases hlt : g < w.heap.size
  · exact hlt
  · unfold St at h; simp [Array.getElem?_eq_none (Nat.le_of_not_lt hlt)] at h
theorem St.later (h : St w g t x y z) (hb : Below w.heap.size w w') : St w' g t x y z := by
  have := h.lt
  unfold St
  rw [hb.block g this]; exact h
theorem St.cells (h : St w g t x y z) : w.cell? ⟨g, 0, none⟩ = some x ∧ w.cell? ⟨g, 1, none⟩ = some y ∧ w.cell? ⟨g, 2, none⟩ = some z := by
  unfold St at h
  simp [World.cell?, h]
theorem St.frozen (h : St w g t x y z) : w.frozen? ⟨g, 0, none⟩ = false ∧ w.frozen? ⟨g, 1, none⟩ = false ∧ w.frozen? ⟨g, 2, none⟩ = false := by
  unfold St at h
  simp [World.frozen?, h]
theorem st_new (w : World) (x y z : Value) (t : TypeId) : St (w.alloc (.cells #[x, y, z] t)) w.heap.size t x y z := heap_alloc_new _ _
theorem St.set (h : St w g t x y z) (x' y' z' : Value) : St (((w.setCell ⟨g, 0, none⟩ x').setCell ⟨g, 1, none⟩ y').setCell ⟨g, 2, none⟩ z') g t x' y' z' :=
  set_block (set_block (set_block h))
theorem in3 (w : World) (g : Nat) (x' y' z' : Value) : In g (g + 1) w (((w.setCell ⟨g, 0, none⟩ x').setCell ⟨g, 1, none⟩ y').setCell ⟨g, 2, none⟩ z') :=
  (((In.refl g (g + 1) w).set1 0 _).set1 1 _).set1 2 _
theorem St.inn {g' : Nat} (h : St w g t x y z) (hi : In g' (g' + 1) w w') (hne : g ≠ g') : St w' g t x y z := by
  have := h.lt
  unfold St
  rw [hi.block g this (by omega)]; exact h
theorem own_inn {k : IntKind} {base : Nat} {e : TypeId} {v : Value} {xs : List Int} (h : Own k w base e v xs) (hi : In g (g + 1) w w') (hg : g < base) : Own k w' base e v xs :=
  own_same h fun g' hg' => hi.block g' (own_blk h hg').2 (by have := (own_blk h hg').1; omega)
theorem own_lower {k : IntKind} {base base' : Nat} {e : TypeId} {v : Value} {xs : List Int} (h : Own k w base e v xs) (hl : base' ≤ base) : Own k w base' e v xs := by
  obtain ⟨h1, h2⟩ := h
  refine ⟨h1, ?_⟩
  rcases h2 with h2 | ⟨g, c, cur, hv, hg, r⟩
  · exact Or.inl h2
  · exact Or.inr ⟨g, c, cur, hv, Nat.le_trans hl hg, r⟩
theorem below_in {B : Nat} {a : World} (h : Below B a w) (hi : In g (g + 1) w w') (hg : B ≤ g) (hs : B ≤ a.heap.size) : Below B a w' := below_inn h hi hg hs
end
/-- the Rat q in memory: its sign, its two lists -/
structure Rt (w : World) (s : Bool) (a : Option Addr) (n c : Nat) (b : Option Addr) (m d : Nat) (q : Rat) : Prop where
  sgn : s = decide (q.num < 0)
  nu : RowC w a n c (words (q.num.natAbs : Int))
  de : RowC w b m d (words (q.den : Int))
/-- so many words above and below -/
def Sz (q : Rat) (k : Nat) : Prop := Lt (q.num.natAbs : Int) k ∧ Lt (q.den : Int) k
theorem Sz.mono {q : Rat} {k l : Nat} (h : Sz q k) (hl : k ≤ l) : Sz q l := ⟨h.1.mono hl, h.2.mono hl⟩
section
variable {w w' : World} {s : Bool} {a b : Option Addr} {n c m d : Nat} {q : Rat} {k : Nat}
theorem Rt.later (h : Rt w s a n c b m d q) (hb : Below w.heap.size w w') : Rt w' s a n c b m d q := ⟨h.sgn, h.nu.later hb, h.de.later hb⟩
theorem Rt.len (h : Rt w s a n c b m d q) : n = (words (q.num.natAbs : Int)).length := h.nu.1.1.symm
theorem Rt.lenD (h : Rt w s a n c b m d q) : m = (words (q.den : Int)).length := h.de.1.1.symm
theorem Rt.le (h : Rt w s a n c b m d q) (hz : Sz q k) : n ≤ k := by rw [h.len]; exact hz.1.len
theorem Rt.leD (h : Rt w s a n c b m d q) (hz : Sz q k) : m ≤ k := by rw [h.lenD]; exact hz.2.len
theorem lt_add1 {A B : Int} (h : Lt A k) (h' : Lt B k) : Lt (A + B) (k + 1) := by
  obtain ⟨a, b⟩ := h
  obtain ⟨c, d⟩ := h'
  refine ⟨by omega, ?_⟩
  rw [Int.pow_succ]
  omega
theorem nm_abs (hz : Sz q k) (hk : k ≤ 4000000) : Nm (words (q.num.natAbs : Int)) (q.num.natAbs : Int) := hz.1.nm hk
theorem nm_den (hz : Sz q k) (hk : k ≤ 4000000) : Nm (words (q.den : Int)) (q.den : Int) := hz.2.nm hk
theorem Sz.mkR {s : Bool} {A B : Int} (hA : Lt A k) (hB : Lt B k) (h0 : 0 < B) : Sz (mkR s A B) k :=
  ⟨⟨by omega, Int.lt_of_le_of_lt (rat_abs_le hA.1 h0) hA.2⟩, ⟨by omega, Int.lt_of_le_of_lt (rat_den_le hA.1 h0) hB.2⟩⟩
end

section
variable {w : World} {a b : Option Addr} {n c m d : Nat}
theorem rnormal_any {N : Int} (hr1 : RowC w a n c (words N)) (hN : 0 ≤ N) (hl : n ≤ 4096) :
    Calls Tryz.prog 153 #[.slice a n c] w fun e w' => e = .returned (.bool true) ∧ w' = w := by
  have l := hr1.1.1
  by_cases hz : N = 0
  · have hw := (words_nil hN).mpr hz
    have hn0 : n = 0 := by omega
    subst hn0
    clear hr1 l hw hz
    go_enter Tryz.func153, Tryz.ntmps153
    go_wp2
    go_ret
    exact ⟨rfl, rfl⟩
  · have hp : (words N).length ≠ 0 := fun h => hz ((words_nil hN).mp h)
    obtain ⟨j, rfl⟩ : ∃ j, n = j + 1 := ⟨n - 1, by omega⟩
    have hx := (bits_list (N := N) (L := j) (by omega) l).1
    obtain ⟨bb, off, rfl, hb, hc⟩ := hr1.1.at (by omega)
    have hcx := hc j (by omega)
    generalize (words N).getD j 0 = x at *
    have t1 : (x != 0) = true := by simp; omega
    have t2 : (((j : Int) + 1) == 0) = false := by simp; omega
    have t3 : (j : Int) + 1 ≤ 4096 := by omega
    clear hr1 l hc hp hz hx hN
    go_enter Tryz.func153, Tryz.ntmps153
    go_wp2
    go_ret
    exact ⟨rfl, rfl⟩
theorem isOne_any {xs : List Int} {A : Int} {B : Bool} (hr1 : RowC w a n c xs) (h1 : Nm xs A) (hn : n ≤ 4000000) (hB : decide (A = 1) = B) :
    Calls Tryz.prog 154 #[.slice a n c] w fun e w' => e = .returned (.bool B) ∧ Below w.heap.size w w' := by
  have h := natWord_any hr1 h1.ws hn
  have hA := h1.nonneg
  rw [h1.num] at h
  by_cases hs : A < 18446744073709551616
  · have e1 : wordB A = true := by unfold wordB; simp [hs]
    have e2 : wordV A = A := by unfold wordV; simp [hs]
    rw [e1, e2] at h
    have HB : Hid ((A == 1) = B) := by show _ = _; rw [← hB]; rfl
    clear e1 e2 hs hB h1 hr1
    go_enter Tryz.func154, Tryz.ntmps154
    go_wp2_with fail
    refine h.mono ?_
    rintro e w' ⟨rfl, hb⟩
    clear h
    go_wp2
    go_ret
    exact ⟨ret_bool' HB.out, hb⟩
  · have e1 : wordB A = false := by unfold wordB; simp [hs]
    rw [e1] at h
    have HB : Hid (false = B) := by show _ = _; rw [← hB]; symm; rw [decide_eq_false_iff_not]; omega
    clear e1 hs hB h1 hr1
    go_enter Tryz.func154, Tryz.ntmps154
    go_wp2_with fail
    refine h.mono ?_
    rintro e w' ⟨rfl, hb⟩
    clear h
    go_wp2
    go_ret
    exact ⟨ret_bool' HB.out, hb⟩
end
/-- a Rat in memory of its own, from base on; its two lists lie apart -/
structure RtO (w : World) (base : Nat) (s : Bool) (v1 v2 : Value) (q : Rat) : Prop where
  sgn : s = decide (q.num < 0)
  nu : Own .u64 w base 22 v1 (words (q.num.natAbs : Int))
  de : Own .u64 w base 22 v2 (words (q.den : Int))
  ap : Apart v1 v2
theorem RtO.opens {w : World} {base : Nat} {s : Bool} {v1 v2 : Value} {q : Rat} (h : RtO w base s v1 v2 q) : ∃ a n c b m d, v1 = .slice a n c ∧ v2 = .slice b m d ∧ Rt w s a n c b m d q := by
  obtain ⟨a, c, e1, r1⟩ := h.nu.readsC
  obtain ⟨b, d, e2, r2⟩ := h.de.readsC
  exact ⟨a, _, c, b, _, d, e1, e2, h.sgn, r1, r2⟩
theorem RtO.inn {w w' : World} {base g : Nat} {s : Bool} {v1 v2 : Value} {q : Rat} (h : RtO w base s v1 v2 q) (hi : In g (g + 1) w w') (hg : g < base) : RtO w' base s v1 v2 q :=
  ⟨h.sgn, own_inn h.nu hi hg, own_inn h.de hi hg, h.ap⟩
theorem RtO.lower {w : World} {base base' : Nat} {s : Bool} {v1 v2 : Value} {q : Rat} (h : RtO w base s v1 v2 q) (hl : base' ≤ base) : RtO w base' s v1 v2 q :=
  ⟨h.sgn, own_lower h.nu hl, own_lower h.de hl, h.ap⟩
theorem RtO.later {w w' : World} {base : Nat} {s : Bool} {v1 v2 : Value} {q : Rat} (h : RtO w base s v1 v2 q) (hb : Below w.heap.size w w') : RtO w' base s v1 v2 q :=
  ⟨h.sgn, own_same h.nu fun g hg => hb.block g (own_blk h.nu hg).2, own_same h.de fun g hg => hb.block g (own_blk h.de hg).2, h.ap⟩
section
variable {w : World} {a b : Option Addr} {n c m d : Nat} {xs ys : List Int} {A B : Int} {k : Nat}
set_option maxHeartbeats 1600000 in
theorem check_ok {s : Bool} {q : Rat} (h : Rt w s a n c b m d q) (hz : Sz q k) (hk : k ≤ 4096) :
    Calls Tryz.prog 114 #[.agg #[.bool s, .slice a n c, .slice b m d]] w fun e w' => e = .returned (.int .i64 0) ∧ Below w.heap.size w w' := by
  have hb0 := alloc_below (w := w) (.cells #[.bool s, .slice a n c, .slice b m d] 50)
  have r1 := h.nu.later hb0
  have r2 := h.de.later hb0
  have l1 := h.le hz
  have l2 := h.leD hz
  have n1 := rnormal_any r1 (by omega) (by omega)
  have n2 := rnormal_any r2 (by omega) (by omega)
  have g := gcd_any r1 r2 (Dg_words _) (Dg_words _) (by omega) (by omega)
  have dp := den_pos q
  rw [num_words (by omega), num_words (by omega), coprime_of] at g
  have td : ((m : Int) == 0) = false := beq_no (by
    have e := h.lenD
    have z := (words_nil (N := (q.den : Int)) (by omega)).mp
    intro e0
    have := z (by omega)
    omega)
  have tn : s = true → ((n : Int) == 0) = false := fun hs => beq_no (by
    have e := h.len
    have z := (words_nil (N := (q.num.natAbs : Int)) (by omega)).mp
    intro e0
    have z1 := z (by omega)
    have h1 := h.sgn
    rw [hs] at h1
    have := of_decide_eq_true h1.symm
    omega)
  clear h hz r1 r2 dp
  cases s
  · clear tn
    go_enter Tryz.func114, Tryz.ntmps114
    go_wp2_with fail
    refine n1.mono ?_
    rintro e w1 ⟨rfl, rfl⟩
    go_wp2_with fail
    refine n2.mono ?_
    rintro e w2 ⟨rfl, rfl⟩
    go_wp2_with fail
    refine g.mono ?_
    rintro e w3 ⟨v, rfl, ho, hb⟩
    obtain ⟨a', n', c', l', rfl, r, m1, hh⟩ := ho.opens (k := 1) lt_one (by omega)
    clear n1 n2 g ho hh
    have ln := r.1.1
    have lm := m1.len
    go_wp2_with fail
    refine (isOne_any (B := true) r m1 (by omega) rfl).mono ?_
    rintro e w4 ⟨rfl, hb4⟩
    go_wp2
    go_ret
    exact ⟨rfl, hb0.trans ((hb.trans (hb4.mono hb.size)).mono hb0.size)⟩
  · replace tn := tn rfl
    go_enter Tryz.func114, Tryz.ntmps114
    go_wp2_with fail
    refine n1.mono ?_
    rintro e w1 ⟨rfl, rfl⟩
    go_wp2_with fail
    refine n2.mono ?_
    rintro e w2 ⟨rfl, rfl⟩
    go_wp2_with fail
    refine g.mono ?_
    rintro e w3 ⟨v, rfl, ho, hb⟩
    obtain ⟨a', n', c', l', rfl, r, m1, hh⟩ := ho.opens (k := 1) lt_one (by omega)
    clear n1 n2 g ho hh
    have ln := r.1.1
    have lm := m1.len
    go_wp2_with fail
    refine (isOne_any (B := true) r m1 (by omega) rfl).mono ?_
    rintro e w4 ⟨rfl, hb4⟩
    go_wp2
    go_ret
    exact ⟨rfl, hb0.trans ((hb.trans (hb4.mono hb.size)).mono hb0.size)⟩
theorem rlow_any {neg : Bool} (hr1 : RowC w a n c xs) (hr2 : RowC w b m d ys) (h1 : Nm xs A) (h2 : Nm ys B) (hB : 0 < B) (hn : n ≤ 3700000) (hm : m ≤ 3700000) :
    Calls Tryz.prog 113 #[.bool neg, .slice a n c, .slice b m d] w fun e w' => ∃ s v1 v2, e = .returned (.agg #[.bool s, v1, v2]) ∧ RtO w' w.heap.size s v1 v2 (mkR neg A B) ∧ Below w.heap.size w w' := by
  have hb0 := alloc_below (w := w) (.cells #[.bool false, .slice none 0 0, .slice none 0 0] 50)
  have st0 := st_new w (.bool false) (.slice none 0 0) (.slice none 0 0) 50
  replace hr1 := hr1.later hb0
  replace hr2 := hr2.later hb0
  have hA := h1.nonneg
  have hG : 0 < (Int.gcd A B : Int) := by
    have : Int.gcd A B ≠ 0 := by
      intro e
      rw [Int.gcd_eq_zero_iff] at e
      omega
    omega
  have lo := lowest_any hr1 hr2 h1.ws h2.ws hn hm (by rw [h1.num, h2.num]; exact hG)
  rw [h1.num, h2.num, ← rat_abs (s := neg) hA hB, ← rat_den (s := neg) hA hB] at lo
  have hs := rat_neg (s := neg) hA hB
  rw [← rat_abs (s := neg) hA hB] at hs
  generalize mkR neg A B = q at *
  have z := words_nil (N := (q.num.natAbs : Int)) (by omega)
  have HS : Hid (decide (q.num < 0) = (neg && decide ((words (q.num.natAbs : Int)).length ≠ 0))) := by
    show _ = _
    rw [hs]
    congr 1
    rw [decide_eq_decide]
    exact not_congr z.symm
  clear hr1 hr2 h1 h2 hB hn hm hG hs z
  cases neg
  · go_enter Tryz.func113, Tryz.ntmps113
    go_wp2_with fail
    refine lo.mono ?_
    rintro e w1 ⟨v1, v2, rfl, ho1, ho2, hb, hap⟩
    have st1 := st0.later hb
    obtain ⟨c0, c1, c2⟩ := st1.cells
    obtain ⟨z0, z1, z2⟩ := st1.frozen
    obtain ⟨a1, d1, rfl, _⟩ := ho1.readsC
    obtain ⟨a2, d2, rfl, _⟩ := ho2.readsC
    clear lo st0
    go_wp2
    have st9 := fun x => (st1.set x (.slice a1 (words (q.num.natAbs : Int)).length d1) (.slice a2 (words (q.den : Int)).length d2)).cells
    refine bodyPost_ret (v := .agg #[_, .slice a1 (words (q.num.natAbs : Int)).length d1, .slice a2 (words (q.den : Int)).length d2]) (by simp [results, Tryz.results113, go_sem, st9]; rfl) rfl ?_
    exact ⟨_, _, _, rfl, ((RtO.mk (by rw [HS.out]; rfl) ho1 ho2 hap).inn (in3 _ _ _ _ _) (by simp)).lower (by simp), below_in (hb0.trans (hb.mono hb0.size)) (in3 _ _ _ _ _) (Nat.le_refl _) (Nat.le_refl _)⟩
  · go_enter Tryz.func113, Tryz.ntmps113
    go_wp2_with fail
    refine lo.mono ?_
    rintro e w1 ⟨v1, v2, rfl, ho1, ho2, hb, hap⟩
    have st1 := st0.later hb
    obtain ⟨c0, c1, c2⟩ := st1.cells
    obtain ⟨z0, z1, z2⟩ := st1.frozen
    obtain ⟨a1, d1, rfl, _⟩ := ho1.readsC
    obtain ⟨a2, d2, rfl, _⟩ := ho2.readsC
    clear lo st0
    go_wp2
    have st9 := fun x => (st1.set x (.slice a1 (words (q.num.natAbs : Int)).length d1) (.slice a2 (words (q.den : Int)).length d2)).cells
    refine bodyPost_ret (v := .agg #[_, .slice a1 (words (q.num.natAbs : Int)).length d1, .slice a2 (words (q.den : Int)).length d2]) (by simp [results, Tryz.results113, go_sem, st9]; rfl) rfl ?_
    exact ⟨_, _, _, rfl, ((RtO.mk (by rw [HS.out, Bool.eq_iff_iff]; simp) ho1 ho2 hap).inn (in3 _ _ _ _ _) (by simp)).lower (by simp), below_in (hb0.trans (hb.mono hb0.size)) (in3 _ _ _ _ _) (Nat.le_refl _) (Nat.le_refl _)⟩
theorem times_ok (hr1 : RowC w a n c xs) (hr2 : RowC w b m d ys) (h1 : Nm xs A) (h2 : Nm ys B) (hL : Lt (A * B) k) (hk : k ≤ 4096) :
    Calls Tryz.prog 64 #[.slice a n c, .slice b m d] w fun e w' => ∃ a' n' c' l', e = .returned (.slice a' n' c') ∧ RowC w' a' n' c' l' ∧ Nm l' (A * B) ∧ n' ≤ k ∧ Below w.heap.size w w' := by
  have h := mulQ hr1 hr2 h1 h2 hL hk
  have HL : Hid ((words (A * B)).length ≤ k) := hL.len
  clear hr1 hr2 h1 h2 hL
  go_enter Tryz.func64, Tryz.ntmps64
  go_wp2_with fail
  refine h.mono ?_
  rintro e w1 ⟨a', n', c', l', rfl, r, nm, hw, hb⟩
  clear h
  go_wp2
  go_ret
  exact ⟨_, _, _, _, rfl, r, nm, by rw [← r.1.1, hw.out]; exact HL.out, hb⟩
theorem plus_ok (hr1 : RowC w a n c xs) (hr2 : RowC w b m d ys) (h1 : Nm xs A) (h2 : Nm ys B) (hL : Lt (A + B) k) (hk : k ≤ 4096) :
    Calls Tryz.prog 115 #[.slice a n c, .slice b m d] w fun e w' => ∃ a' n' c' l', e = .returned (.slice a' n' c') ∧ RowC w' a' n' c' l' ∧ Nm l' (A + B) ∧ n' ≤ k ∧ Below w.heap.size w w' := by
  have h := addQ hr1 hr2 h1 h2 hL hk
  have HL : Hid ((words (A + B)).length ≤ k) := hL.len
  clear hr1 hr2 h1 h2 hL
  go_enter Tryz.func115, Tryz.ntmps115
  go_wp2_with fail
  refine h.mono ?_
  rintro e w1 ⟨a', n', c', l', rfl, r, nm, hw, hb⟩
  clear h
  go_wp2
  go_ret
  exact ⟨_, _, _, _, rfl, r, nm, by rw [← r.1.1, hw.out]; exact HL.out, hb⟩
end
end Go.Proofs.YtceecgklgkiffaaGreatDoor
