import Derived.Laws.ResultCell
import Derived.Scope
import Derived.WalkMore
import Derived.Deep.LoopGhost
import Derived.Deep.QuietTactic
import Derived.BigQuiet
import Derived.Below
import Derived.ChangeOld
import Derived.KernelRfl
import Derived.Laws.BitsAllLaws
import Derived.OpenShut
import Derived.OwnWalk
import Derived.ProofKit
import Derived.ShutString
import Derived.WalkKit
import Derived.WalkLawsBesides
import Derived.WalkSpells
import Derived.Test.YtceecgklgkiffaaGreatDoorXy1
import Derived.Test.YtceecgklgkiffaaGreatDoorXy2
/- package ryu: how far an interval reaches down; fives; digits taken away; the nearest. -/
namespace Go.Proofs.YtceecgklgkiffaaGreatDoor
open Go.ChangeShapes Go.WideShapes Go.ChangeAt Go.RowKit
open Ar
set_option linter.unusedVariables false
namespace Ry
/-- a block with its cells -/
def Bk (w : World) (g : Nat) (t : TypeId) (vs : Array Value) : Prop := w.heap[g]? = some (.cells vs t (0, 0))
theorem Bk.lt {w : World} {g : Nat} {t : TypeId} {vs : Array Value} (h : Bk w g t vs) : g < w.heap.size := by
  by_cases hlt : g < w.heap.size
  · exact hlt
  · unfold Bk at h; simp [Array.getElem?_eq_none (Nat.le_of_not_lt hlt)] at h
theorem Bk.cell {w : World} {g : Nat} {t : TypeId} {vs : Array Value} (h : Bk w g t vs) (i : Nat) {v : Value} (hv : vs[i]? = some v) : w.cell? ⟨g, i, none⟩ = some v := by
  unfold Bk at h
  simp [World.cell?, h, hv]
theorem Bk.frozen {w : World} {g : Nat} {t : TypeId} {vs : Array Value} (h : Bk w g t vs) (i : Nat) : w.frozen? ⟨g, i, none⟩ = false := by
  unfold Bk at h
  simp [World.frozen?, h]
theorem Bk.later {w w' : World} {g : Nat} {t : TypeId} {vs : Array Value} (h : Bk w g t vs) (hb : Below w.heap.size w w') : Bk w' g t vs := by
  have := h.lt
  unfold Bk
  rw [hb.block g this]; exact h
theorem Bk.set {w : World} {g : Nat} {t : TypeId} {vs : Array Value} (h : Bk w g t vs) (i : Nat) (v : Value) : Bk (w.setCell ⟨g, i, none⟩ v) g t (vs.setIfInBounds i v) := by
  unfold Bk at *
  simp [World.setCell, Array.getElem?_modify, h]
theorem Bk.all6 {w : World} {g : Nat} {t : TypeId} {z0 z1 z2 z3 z4 z5 : Value} (h : Bk w g t #[z0, z1, z2, z3, z4, z5]) (a b c d e f : Value) :
    Bk ((((((w.setCell ⟨g, 0, none⟩ a).setCell ⟨g, 1, none⟩ b).setCell ⟨g, 2, none⟩ c).setCell ⟨g, 3, none⟩ d).setCell ⟨g, 4, none⟩ e).setCell ⟨g, 5, none⟩ f) g t #[a, b, c, d, e, f] := by
  have := (((((h.set 0 a).set 1 b).set 2 c).set 3 d).set 4 e).set 5 f
  simpa using this
theorem Bk.set_ne {w : World} {g g' i : Nat} {t : TypeId} {vs : Array Value} {v : Value} (h : Bk w g t vs) (hn : g ≠ g') : Bk (w.setCell ⟨g', i, none⟩ v) g t vs := by
  unfold Bk at *
  rw [← h]
  exact Below.heap_setCell _ _ _ _ (by simp only; omega)
theorem below_cell {n g i : Nat} {a w : World} {v : Value} (h : Below n a w) (hg : n ≤ g) (hn : n ≤ a.heap.size) : Below n a (w.setCell ⟨g, i, none⟩ v) :=
  ⟨h.os, h.tape, h.output, by have := h.size; simpa [World.setCell] using this, fun k hk => (Below.heap_setCell _ _ _ _ (by simp only; omega)).trans (h.block k hk)⟩
theorem Bk.new (w : World) (t : TypeId) (vs : Array Value) : Bk (w.alloc (.cells vs t)) w.heap.size t vs := heap_alloc_new _ _
end Ry
open Ry
/-- a span as a value -/
def spC (s : Sp) : Array Value := #[.int .u64 (s.low : Int), .int .u64 (s.high : Int), .int .u64 (s.own : Int), .int .u64 (s.last : Int), .bool s.more, .int .i64 ((s.tens : Int) - 400)]
def spV (s : Sp) : Value := .agg (spC s)
theorem reach_any {m i : Nat} {x : Int} (hx : x = (i : Int) - 1074) (w : World) :
    Calls Tryz.prog 97 #[.int .u64 (m : Int), .int .i64 x] w fun e w' => e = .returned (.int .u64 (dnR m i : Int)) ∧ w = w' := by
  by_cases h1 : m = 4503599627370496
  · have d1 : ((m : Int) == 4503599627370496) = true := beq_of (by omega)
    by_cases h2 : 0 < i
    · have d2 : decide (x > -1074) = true := by simp; omega
      have d3 : decide (-1074 < x) = true := by simp; omega
      have r : dnR m i = 1 := if_pos ⟨h1, h2⟩
      rw [r]
      go_enter Tryz.func97, Tryz.ntmps97
      go_wp2
      go_ret
      exact ⟨rfl, rfl⟩
    · have d2 : decide (x > -1074) = false := by simp; omega
      have d3 : decide (-1074 < x) = false := by simp; omega
      have r : dnR m i = 2 := if_neg (fun h => h2 h.2)
      rw [r]
      go_enter Tryz.func97, Tryz.ntmps97
      go_wp2
      go_ret
      exact ⟨rfl, rfl⟩
  · have d1 : ((m : Int) == 4503599627370496) = false := beq_no (by omega)
    have r : dnR m i = 2 := if_neg (fun h => h1 h.1)
    rw [r]
    go_enter Tryz.func97, Tryz.ntmps97
    go_wp2
    go_ret
    exact ⟨rfl, rfl⟩
theorem five_no {c n : Nat} (hn : 0 < n) (h : c % 5 ≠ 0) : ¬ 5 ^ n ∣ c := by
  intro q
  have : 5 ∣ c := Nat.dvd_trans (Nat.dvd_of_pow_dvd hn (Nat.dvd_refl _)) q
  omega
theorem five_yes {c n : Nat} (h : c % 5 = 0) : 5 ^ (n + 1) ∣ c ↔ 5 ^ n ∣ c / 5 := by
  have e : c = c / 5 * 5 := by omega
  rw [Nat.pow_succ]
  constructor
  · intro q
    rw [e] at q
    exact Nat.dvd_of_mul_dvd_mul_right (by omega) q
  · intro q
    rw [e]
    exact Nat.mul_dvd_mul_right q 5
set_option maxHeartbeats 1600000 in
theorem fives_any {c : Nat} (hc : c < 18446744073709551616) {n : Int} (hn0 : -1000 ≤ n) (hn1 : n ≤ 1000) (w : World) :
    Calls Tryz.prog 143 #[.int .u64 (c : Int), .int .i64 n] w fun e w' => e = .returned (.bool (decide (5 ^ n.toNat ∣ c))) ∧ w = w' := by
  go_enter Tryz.func143, Tryz.ntmps143
  go_wp2
  go_loop [0, 1] (fun v k => ∃ (c1 : Nat) (n1 : Int), v = .int .u64 (c1 : Int) ∧ k = .int .i64 n1 ∧ c1 < 18446744073709551616 ∧ -1000 ≤ n1 ∧ n1 ≤ 1000 ∧ Hid ((5 ^ n1.toNat ∣ c1) ↔ (5 ^ n.toNat ∣ c))) (fun _ k => (intOf k).toNat)
  case atStart => exact ⟨c, n, rfl, rfl, hc, hn0, hn1, Iff.rfl⟩
  case round =>
    obtain ⟨c1, n1, rfl, rfl, b1, b2, b3, hI⟩ := hrel
    by_cases q : 0 < n1
    · have d1 : decide (n1 > 0) = true := by simp; omega
      have d1' : decide (0 < n1) = true := by simp; omega
      by_cases z : c1 % 5 = 0
      · have d2 : ((c1 : Int) % 5 != 0) = false := bne_of (by omega)
        have hI2 : (5 ^ (n1 - 1).toNat ∣ c1 / 5) ↔ (5 ^ n.toNat ∣ c) := by
          have e : n1.toNat = (n1 - 1).toNat + 1 := by omega
          have := hI.out
          rw [e, five_yes z] at this
          exact this
        clear hI
        have HI2 : Hid ((5 ^ (n1 - 1).toNat ∣ c1 / 5) ↔ (5 ^ n.toNat ∣ c)) := hI2
        clear hI2
        go_wp2
        go_round
        case rel => exact ⟨c1 / 5, n1 - 1, by simp, rfl, by omega, by omega, by omega, HI2⟩
        case measure => simp [intOf]; omega
      · have d2 : ((c1 : Int) % 5 != 0) = true := bne_yes (by omega)
        have r : decide (5 ^ n.toNat ∣ c) = false := by
          rw [decide_eq_false_iff_not, ← hI.out]
          exact five_no (by omega) z
        clear hI
        go_wp2
        go_ret
        exact ⟨rfl, rfl⟩
    · have d1 : decide (n1 > 0) = false := by simp; omega
      have d1' : decide (0 < n1) = false := by simp; omega
      have r : decide (5 ^ n.toNat ∣ c) = true := by
        rw [decide_eq_true_eq, ← hI.out]
        have : n1.toNat = 0 := by omega
        rw [this]; simp
      clear hI
      go_wp2
      go_ret
      exact ⟨rfl, rfl⟩
theorem sp_less (s : Sp) : spV (lessS s) = .agg #[.int .u64 (((s.low : Int) + 9) / 10), .int .u64 ((s.high : Int) / 10), .int .u64 ((s.own : Int) / 10), .int .u64 ((s.own : Int) % 10), .bool (s.more || !decide (s.last = 0)), .int .i64 ((s.tens : Int) - 400 + 1)] := by
  unfold spV spC lessS
  simp
  omega
set_option maxHeartbeats 1600000 in
set_option maxRecDepth 100000 in
theorem less_any {s : Sp} (h1 : s.low < 9223372036854775808) (h2 : s.high < 9223372036854775808) (h3 : s.own < 9223372036854775808) (h4 : s.last < 10) (h5 : s.tens ≤ 2000) (w : World) :
    Calls Tryz.prog 101 #[spV s] w fun e w' => e = .returned (spV (lessS s)) ∧ Below w.heap.size w w' := by
  rw [sp_less]
  unfold spV spC
  obtain ⟨lo, hi, ow, la, mo, te⟩ := s
  simp only at *
  have hb0 := alloc_below (w := w) (.cells #[.int .u64 lo, .int .u64 hi, .int .u64 ow, .int .u64 la, .bool mo, .int .i64 ((te : Int) - 400)] 90)
  cases mo
  · by_cases q : la = 0
    · subst q
      have d1 : (((0 : Nat) : Int) != 0) = false := rfl
      go_enter Tryz.func101, Tryz.ntmps101
      go_wp2
      refine bodyPost_ret (v := .agg #[.int .u64 (((lo : Int) + 9) / 10), .int .u64 ((hi : Int) / 10), .int .u64 ((ow : Int) / 10), .int .u64 ((ow : Int) % 10), .bool false, .int .i64 ((te : Int) - 400 + 1)]) (by simp [results, Tryz.results101, go_sem]) rfl ?_
      exact ⟨by simp, Below.alloc (alloc_below (w := w) _) (by simp) _⟩
    · have d1 : ((la : Int) != 0) = true := bne_yes (by omega)
      go_enter Tryz.func101, Tryz.ntmps101
      go_wp2
      refine bodyPost_ret (v := .agg #[.int .u64 (((lo : Int) + 9) / 10), .int .u64 ((hi : Int) / 10), .int .u64 ((ow : Int) / 10), .int .u64 ((ow : Int) % 10), .bool true, .int .i64 ((te : Int) - 400 + 1)]) (by simp [results, Tryz.results101, go_sem]) rfl ?_
      exact ⟨by simp [q], Below.alloc hb0 (by simp) _⟩
  · go_enter Tryz.func101, Tryz.ntmps101
    go_wp2
    refine bodyPost_ret (v := .agg #[.int .u64 (((lo : Int) + 9) / 10), .int .u64 ((hi : Int) / 10), .int .u64 ((ow : Int) / 10), .int .u64 ((ow : Int) % 10), .bool true, .int .i64 ((te : Int) - 400 + 1)]) (by simp [results, Tryz.results101, go_sem]) rfl ?_
    exact ⟨by simp, Below.alloc hb0 (by simp) _⟩
theorem max_nat (a b : Nat) : ((max a b : Nat) : Int) = if (a : Int) < b then (b : Int) else a := by
  split <;> omega
theorem near_raw {lo hi ow la : Nat} {mo : Bool} {te : Int} (h1 : lo < 9223372036854775808) (h3 : ow < 9223372036854775808) (c : Bool) (out : Nat) (hout : out = if c = true then ow + 1 else ow)
    (hc : c = (decide ((la : Int) > 5) || (((la : Int) == 5) && (mo || ((ow : Int) % 2 != 0))))) (w : World) :
    Calls Tryz.prog 52 #[.agg #[.int .u64 (lo : Int), .int .u64 (hi : Int), .int .u64 (ow : Int), .int .u64 (la : Int), .bool mo, .int .i64 te]] w fun e w' => e = .returned (.int .u64 ((max out lo : Nat) : Int)) ∧ Below w.heap.size w w' := by
  rw [max_nat]
  cases h5 : decide ((la : Int) > 5)
  · have h5' : decide (5 < (la : Int)) = false := h5
    cases h6 : ((la : Int) == 5)
    · rw [h5, h6] at hc
      simp at hc
      rw [hc] at hout
      simp at hout
      subst hout
      go_enter Tryz.func52, Tryz.ntmps52
      go_wp2
      all_goals go_ret
      all_goals exact ⟨rfl, alloc_below _⟩
    · rw [h5, h6] at hc
      cases mo
      · cases h7 : ((ow : Int) % 2 != 0)
        · rw [h7] at hc
          simp at hc
          rw [hc] at hout
          simp at hout
          subst hout
          go_enter Tryz.func52, Tryz.ntmps52
          go_wp2
          all_goals go_ret
          all_goals exact ⟨rfl, alloc_below _⟩
        · rw [h7] at hc
          simp at hc
          rw [hc] at hout
          simp at hout
          subst hout
          go_enter Tryz.func52, Tryz.ntmps52
          go_wp2
          all_goals go_ret
          all_goals exact ⟨rfl, alloc_below _⟩
      · simp at hc
        rw [hc] at hout
        simp at hout
        subst hout
        go_enter Tryz.func52, Tryz.ntmps52
        go_wp2
        all_goals go_ret
        all_goals exact ⟨rfl, alloc_below _⟩
  · have h5' : decide (5 < (la : Int)) = true := h5
    rw [h5] at hc
    simp at hc
    rw [hc] at hout
    simp at hout
    subst hout
    go_enter Tryz.func52, Tryz.ntmps52
    go_wp2
    all_goals go_ret
    all_goals exact ⟨rfl, alloc_below _⟩
theorem rnearest_any {s : Sp} (h1 : s.low < 9223372036854775808) (h3 : s.own < 9223372036854775808) (w : World) :
    Calls Tryz.prog 52 #[spV s] w fun e w' => e = .returned (.int .u64 (neS s : Int)) ∧ Below w.heap.size w w' := by
  refine (near_raw (hi := s.high) (la := s.last) (mo := s.more) (te := (s.tens : Int) - 400) h1 h3 _ _ rfl rfl w).mono ?_
  rintro e w' ⟨rfl, hb⟩
  refine ⟨?_, hb⟩
  unfold neS
  have e1 : ((decide ((s.last : Int) > 5) || (((s.last : Int) == 5) && (s.more || ((s.own : Int) % 2 != 0)))) = true) = (5 < s.last ∨ (s.last = 5 ∧ (s.more = true ∨ s.own % 2 ≠ 0))) := by
    have a1 : ((s.last : Int) > 5) ↔ 5 < s.last := by omega
    have a2 : ((s.last : Int) = 5) ↔ s.last = 5 := by omega
    have a3 : ((s.own : Int) % 2 ≠ 0) ↔ s.own % 2 ≠ 0 := by omega
    simp only [Bool.or_eq_true, Bool.and_eq_true, decide_eq_true_eq, beq_iff_eq, bne_iff_ne, a1, a2, a3]
  simp only [e1]
theorem sp_cells {w : World} {g : Nat} {t : TypeId} {s : Sp} (h : Bk w g t (spC s)) : w.cell? ⟨g, 0, none⟩ = some (.int .u64 (s.low : Int)) ∧ w.cell? ⟨g, 1, none⟩ = some (.int .u64 (s.high : Int)) ∧ w.cell? ⟨g, 2, none⟩ = some (.int .u64 (s.own : Int)) ∧ w.cell? ⟨g, 3, none⟩ = some (.int .u64 (s.last : Int)) ∧ w.cell? ⟨g, 4, none⟩ = some (.bool s.more) ∧ w.cell? ⟨g, 5, none⟩ = some (.int .i64 ((s.tens : Int) - 400)) :=
  ⟨h.cell 0 rfl, h.cell 1 rfl, h.cell 2 rfl, h.cell 3 rfl, h.cell 4 rfl, h.cell 5 rfl⟩
/-- what stays so while digits are taken away -/
structure SpB (n : Nat) (s : Sp) : Prop where
  lo : 1 ≤ s.low
  lh : s.low ≤ s.high
  hi : s.high < 10 ^ n
  ow : s.own < 9223372036854775808
  la : s.last < 10
  te : s.tens + n ≤ 2000
  hh : s.high < 9223372036854775808
theorem spB_next {n : Nat} {s : Sp} (h : SpB (n + 1) s) (hl : (lessS s).low ≤ (lessS s).high) : SpB n (lessS s) := by
  obtain ⟨h1, h2, h3, h4, h5, h6, h7⟩ := h
  rw [Nat.pow_succ] at h3
  have e1 : (lessS s).low = (s.low + 9) / 10 := rfl
  have e2 : (lessS s).high = s.high / 10 := rfl
  have e3 : (lessS s).own = s.own / 10 := rfl
  have e4 : (lessS s).last = s.own % 10 := rfl
  have e5 : (lessS s).tens = s.tens + 1 := rfl
  exact ⟨by omega, hl, by omega, by omega, by omega, by omega, by omega⟩
theorem go_end {n : Nat} {s : Sp} (h : (lessS s).high < (lessS s).low) : goS (n + 1) s = s := by rw [goS, if_pos h]
theorem go_on {n : Nat} {s : Sp} (h : (lessS s).low ≤ (lessS s).high) : goS (n + 1) s = goS n (lessS s) := by rw [goS, if_neg (by omega)]
theorem go_bd (n : Nat) : ∀ s : Sp, SpB n s → ∃ k, SpB k (goS n s) := by
  induction n with
  | zero => intro s h; have := h.lo; have := h.lh; have := h.hi; simp at this; omega
  | succ n ih =>
    intro s h
    rw [goS]
    split
    · exact ⟨_, h⟩
    · exact ih _ (spB_next h (by omega))
set_option maxHeartbeats 1600000 in
set_option maxRecDepth 100000 in
theorem shortest_any {n : Nat} (hn : n ≤ 20) {s : Sp} (hs : SpB n s) (w : World) :
    Calls Tryz.prog 51 #[spV s] w fun e w' => e = .returned (spV (goS n s)) ∧ Below w.heap.size w w' := by
  have t0 : Bk ((w.alloc (.cells (spC s) 90)).alloc (.cells #[.int .u64 0, .int .u64 0, .int .u64 0, .int .u64 0, .bool false, .int .i64 0] 90)) w.heap.size 90 (spC s) := (Bk.new w 90 (spC s)).later (alloc_below _)
  have t1 : Bk ((w.alloc (.cells (spC s) 90)).alloc (.cells #[.int .u64 0, .int .u64 0, .int .u64 0, .int .u64 0, .bool false, .int .i64 0] 90)) (w.heap.size + 1) 90 #[.int .u64 0, .int .u64 0, .int .u64 0, .int .u64 0, .bool false, .int .i64 0] := by
    have := Bk.new (w.alloc (.cells (spC s) 90)) 90 #[.int .u64 0, .int .u64 0, .int .u64 0, .int .u64 0, .bool false, .int .i64 0]
    simpa using this
  have hb0 : Below w.heap.size w ((w.alloc (.cells (spC s) 90)).alloc (.cells #[.int .u64 0, .int .u64 0, .int .u64 0, .int .u64 0, .bool false, .int .i64 0] 90)) := (alloc_below (w := w) _).alloc (by simp) _
  have H0 : Hid _ := t0
  have H1 : Hid _ := t1
  have HB : Hid _ := hb0
  clear t0 t1 hb0
  unfold spV
  go_enter Tryz.func51, Tryz.ntmps51
  go_wp2
  refine wp_scope_straight ?_
  refine wp_seq (wp_label ?_)
  simp only [Exit.then]
  go_wp2
  go_loopg [3] n (fun k v wr => ∃ (s1 : Sp), Hid (SpB k s1) ∧ k ≤ 20 ∧ Hid (goS k s1 = goS n s) ∧ Hid (Bk wr w.heap.size 90 (spC s1)) ∧ Hid (Bk wr (w.heap.size + 1) 90 #[.int .u64 0, .int .u64 0, .int .u64 0, .int .u64 0, .bool false, .int .i64 0]) ∧ Hid (Below w.heap.size w wr))
  case atStart => exact ⟨s, hs, hn, rfl, H0, H1, HB⟩
  case round =>
    obtain ⟨s1, hs1, hk, hgo, K0, K1, KB⟩ := hrel
    clear H0 H1 HB
    obtain ⟨p1, p2, p3, p4, p5, p6, p7⟩ := hs1.out
    have hL := less_any (s := s1) (by omega) (by omega) p4 p5 (by omega) wr
    have hlt := Bk.lt K1.out
    have n1 : ¬ w.heap.size = wr.heap.size := by omega
    unfold spV spC at hL
    obtain ⟨x0, x1, x2, x3, x4, x5⟩ := sp_cells K0.out
    cases gk with
    | zero => simp at p3; omega
    | succ k =>
      go_wp2_with fail
      refine hL.mono ?_
      rintro e w2 ⟨rfl, hb2⟩
      clear hL x0 x1 x2 x3 x4 x5
      have K0' := K0.out.later hb2
      have K1' := K1.out.later hb2
      have KB' := KB.out.trans (hb2.mono KB.out.size)
      have hs2 := hb2.size
      have n2 : ¬ w.heap.size = w2.heap.size := by omega
      have n3 : ¬ w.heap.size + 1 = w2.heap.size := by omega
      have n2' : ¬ w2.heap.size = w.heap.size := by omega
      have n3' : ¬ w2.heap.size = w.heap.size + 1 := by omega
      by_cases q : (lessS s1).high < (lessS s1).low
      · have d1 : decide (((lessS s1).low : Int) > ((lessS s1).high : Int)) = true := by simp; omega
        have d2 : decide (((lessS s1).high : Int) < ((lessS s1).low : Int)) = true := by simp; omega
        have hfin : s1 = goS n s := (go_end q).symm.trans hgo.out
        have HK0 := K0'.later (alloc_below (w := w2) (.cells (spC (lessS s1)) 90))
        have HK1 := K1'.later (alloc_below (w := w2) (.cells (spC (lessS s1)) 90))
        have HKB : Hid (Below w.heap.size w (w2.alloc (.cells (spC (lessS s1)) 90))) := KB'.alloc (by omega) _
        obtain ⟨x0, x1, x2, x3, x4, x5⟩ := sp_cells HK0
        obtain ⟨y0, y1, y2, y3, y4, y5⟩ := (⟨HK1.frozen 0, HK1.frozen 1, HK1.frozen 2, HK1.frozen 3, HK1.frozen 4, HK1.frozen 5⟩ : _ ∧ _ ∧ _ ∧ _ ∧ _ ∧ _)
        obtain ⟨z0, z1, z2, z3, z4, z5⟩ := (⟨HK1.cell 0 rfl, HK1.cell 1 rfl, HK1.cell 2 rfl, HK1.cell 3 rfl, HK1.cell 4 rfl, HK1.cell 5 rfl⟩ : _ ∧ _ ∧ _ ∧ _ ∧ _ ∧ _)
        have HK1h : Hid _ := HK1
        have HF : Hid (s1 = goS n s) := hfin
        clear K0 K1 KB K0' K1' KB' HK0 HK1 hfin hgo hs1 hs
        unfold spC at *
        go_wp2
        rw [Exit.noGoto_ret]
        go_wp2
        refine bodyPost_ret (results_cell_row rfl _ _ (w.heap.size + 1) 90 (spC s1) (0, 0) _ rfl (Bk.all6 HK1h.out _ _ _ _ _ _) Tryz.underlying90 rfl (by kernel_rfl)) rfl ?_
        refine ⟨by rw [← HF.out], ?_⟩
        exact below_cell (below_cell (below_cell (below_cell (below_cell (below_cell HKB.out (by omega) (by omega)) (by omega) (by omega)) (by omega) (by omega)) (by omega) (by omega)) (by omega) (by omega)) (by omega) (by omega)
      · have q' : (lessS s1).low ≤ (lessS s1).high := by omega
        have d1 : decide (((lessS s1).low : Int) > ((lessS s1).high : Int)) = false := by simp; omega
        have d2 : decide (((lessS s1).high : Int) < ((lessS s1).low : Int)) = false := by simp; omega
        have HG : Hid (goS k (lessS s1) = goS n s) := (go_on q').symm.trans hgo.out
        have HS : Hid (SpB k (lessS s1)) := spB_next hs1.out q'
        have HK0 := K0'.later (alloc_below (w := w2) (.cells (spC (lessS s1)) 90))
        have HK1 : Hid _ := K1'.later (alloc_below (w := w2) (.cells (spC (lessS s1)) 90))
        have HKB : Hid (Below w.heap.size w (w2.alloc (.cells (spC (lessS s1)) 90))) := KB'.alloc (by omega) _
        have HL := Bk.new w2 90 (spC (lessS s1))
        obtain ⟨x0, x1, x2, x3, x4, x5⟩ := sp_cells HK0
        obtain ⟨y0, y1, y2, y3, y4, y5⟩ := (⟨HK0.frozen 0, HK0.frozen 1, HK0.frozen 2, HK0.frozen 3, HK0.frozen 4, HK0.frozen 5⟩ : _ ∧ _ ∧ _ ∧ _ ∧ _ ∧ _)
        obtain ⟨v0, v1, v2, v3, v4, v5⟩ := sp_cells HL
        have HK0h : Hid _ := HK0
        clear K0 K1 KB K0' K1' KB' HK0 HL hgo hs1 hs
        unfold spC at *
        go_wp2
        go_roundg k
        case measure => omega
        case rel =>
          refine ⟨lessS s1, HS, by omega, HG, Bk.all6 HK0h.out _ _ _ _ _ _, ?_, ?_⟩
          · exact Bk.set_ne (Bk.set_ne (Bk.set_ne (Bk.set_ne (Bk.set_ne (Bk.set_ne HK1.out (by omega)) (by omega)) (by omega)) (by omega)) (by omega)) (by omega)
          · exact below_cell (below_cell (below_cell (below_cell (below_cell (below_cell HKB.out (by omega) (by omega)) (by omega) (by omega)) (by omega) (by omega)) (by omega) (by omega)) (by omega) (by omega)) (by omega) (by omega)
end Go.Proofs.YtceecgklgkiffaaGreatDoor

