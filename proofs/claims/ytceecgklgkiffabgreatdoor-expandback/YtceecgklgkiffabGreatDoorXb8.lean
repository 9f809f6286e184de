import Derived.Deep.QuietTactic
import Derived.BigQuiet
import Derived.Below
import Derived.ChangeOld
import Derived.Deep.DeepCutAuto
import Derived.Deep.RegionWith
import Derived.KernelRfl
import Derived.Laws.BitsAllLaws
import Derived.Laws.CopyRow
import Derived.Laws.EntriesVeiled
import Derived.Laws.IdiomCopy
import Derived.Laws.IdiomRangeMap
import Derived.OpenShut
import Derived.OwnWalk
import Derived.ProofKit
import Derived.Scope
import Derived.ShutString
import Derived.WalkKit
import Derived.WalkLawsBesides
import Derived.WalkMore
import Derived.WalkSpells
import Derived.Test.YtceecgklgkiffabGreatDoorXb5
import Derived.Test.YtceecgklgkiffabGreatDoorXb6
/- package near: Quotient. -/
namespace Go.Proofs.YtceecgklgkiffabGreatDoor
open Go.ChangeShapes Go.WideShapes Go.ChangeAt Go.RowKit
open Na Ar
set_option linter.unusedVariables false
theorem e2_nat (k : Nat) : e2 (k : Int) = 2 ^ k := by unfold e2; rw [Int.toNat_natCast]
theorem e2_neg_nat (k : Nat) : e2 (-(k : Int)) = 1 := e2_zero (by omega)
/-- long enough: more bits than a mantissa and one behind it -/
theorem quot_long {N D : Int} {m s : Nat} (hD : 0 < D) (hDl : D < 18446744073709551616 ^ m) (h : (18446744073709551616 : Int) ^ (m + 1) ≤ N) : e2 64 ≤ N / D := by
  apply Int.le_ediv_of_mul_le hD
  rw [e2_64]
  rw [Int.pow_succ] at h
  have : 18446744073709551616 * D ≤ 18446744073709551616 * 18446744073709551616 ^ m := Int.mul_le_mul_of_nonneg_left (by omega) (by omega)
  rw [Int.mul_comm (18446744073709551616 ^ m)] at h
  omega
theorem quot_up {N D mode b e : Int} {neg : Bool} {m n q : Nat} (hN : 0 ≤ N) (hD : 0 < D) (hDl : D < 18446744073709551616 ^ m) (hNl : N = 0 ∨ (1 ≤ n ∧ (18446744073709551616 : Int) ^ (n - 1) ≤ N)) (hq : q + n = m + 2) :
    RoundIs (scA (N * 2 ^ (64 * q) / D) (-((64 * q : Nat) : Int))) (scB 1 (-((64 * q : Nat) : Int))) (decide (N * 2 ^ (64 * q) % D ≠ 0)) neg mode b e ↔ RoundIs (scA N 0) (scB D 0) false neg mode b e := by
  refine round_quot (F := N * 2 ^ (64 * q) % D) hD ?_ (Int.emod_nonneg _ (by omega)) ?_ (by simp) ?_
  · rw [Int.neg_neg, e2_nat, e2_neg_nat, Int.mul_one]
    exact (Int.ediv_mul_add_emod _ _).symm
  · rw [e2_neg_nat, Int.mul_one]; exact Int.emod_lt_of_pos _ hD
  · rcases hNl with rfl | ⟨h1, h2⟩
    · left; rw [Int.zero_mul, Int.zero_emod]
    · right
      refine quot_long (s := 0) hD hDl ?_
      have p := p2pos (64 * q)
      have : (18446744073709551616 : Int) ^ (n - 1) * 2 ^ (64 * q) ≤ N * 2 ^ (64 * q) := Int.mul_le_mul_of_nonneg_right h2 (by omega)
      rw [← wpow2, ← Int.pow_add] at this
      rw [← wpow2]
      have e : n - 1 + q = m + 1 := by omega
      rw [e] at this
      exact this
theorem quot_down {N D mode b e : Int} {neg : Bool} {m n k : Nat} (hN : 0 ≤ N) (hD : 0 < D) (hDl : D < 18446744073709551616 ^ m) (hNl : (18446744073709551616 : Int) ^ (n - 1) ≤ N) (hk : n = m + 2 + k) :
    RoundIs (scA (N / 2 ^ (64 * k) / D) ((64 * k : Nat) : Int)) (scB 1 ((64 * k : Nat) : Int)) (decide (N % 2 ^ (64 * k) ≠ 0) || decide (N / 2 ^ (64 * k) % D ≠ 0)) neg mode b e ↔ RoundIs (scA N 0) (scB D 0) false neg mode b e := by
  have p := p2pos (64 * k)
  have l0 := Int.emod_nonneg N (show (2 : Int) ^ (64 * k) ≠ 0 by omega)
  have l1 := Int.emod_lt_of_pos N p
  have r0 := Int.emod_nonneg (N / 2 ^ (64 * k)) (show D ≠ 0 by omega)
  have r1 := Int.emod_lt_of_pos (N / 2 ^ (64 * k)) hD
  have m0 : 0 ≤ N / 2 ^ (64 * k) % D * 2 ^ (64 * k) := Int.mul_nonneg r0 (by omega)
  refine round_quot (F := N / 2 ^ (64 * k) % D * 2 ^ (64 * k) + N % 2 ^ (64 * k)) hD ?_ (by omega) ?_ ?_ ?_
  · rw [e2_nat, e2_neg_nat, Int.mul_one]
    have e1 := Int.ediv_mul_add_emod N (2 ^ (64 * k))
    have e3 := Int.ediv_mul_add_emod (N / 2 ^ (64 * k)) D
    have e4 : N / 2 ^ (64 * k) * 2 ^ (64 * k) = (N / 2 ^ (64 * k) / D * D + N / 2 ^ (64 * k) % D) * 2 ^ (64 * k) := by rw [e3]
    rw [Int.add_mul, Int.mul_assoc] at e4
    omega
  · rw [e2_nat]
    have : (N / 2 ^ (64 * k) % D + 1) * 2 ^ (64 * k) ≤ D * 2 ^ (64 * k) := Int.mul_le_mul_of_nonneg_right (by omega) (by omega)
    rw [Int.add_mul, Int.one_mul] at this
    omega
  · simp only [Bool.or_eq_true, decide_eq_true_eq]
    constructor
    · rintro (h | h)
      · omega
      · have : 1 * (2 : Int) ^ (64 * k) ≤ N / 2 ^ (64 * k) % D * 2 ^ (64 * k) := Int.mul_le_mul_of_nonneg_right (by omega) (by omega)
        omega
    · intro h
      by_cases hr : N / 2 ^ (64 * k) % D = 0
      · left; rw [hr, Int.zero_mul] at h; omega
      · right; exact hr
  · right
    refine quot_long (s := 0) hD hDl ?_
    apply Int.le_ediv_of_mul_le p
    rw [← wpow2, ← Int.pow_add]
    have e : m + 1 + k = n - 1 := by omega
    rw [e]; exact hNl
theorem emod_le' {a D : Int} (h : 0 ≤ a) (hD : 0 < D) : a % D ≤ a := by
  have e := Int.ediv_mul_add_emod a D
  have := Int.mul_nonneg (Int.ediv_nonneg h (show 0 ≤ D by omega)) (show 0 ≤ D by omega)
  omega
theorem bne_len {n : Nat} {R : Int} (h : n = 0 ↔ R = 0) : ((n : Int) != 0) = decide (R ≠ 0) := by
  rw [Bool.eq_iff_iff]; simp; exact not_congr h
theorem num_low_mod {xs : List Int} (h : Ws xs) {k : Nat} (hk : k ≤ xs.length) : num (xs.take k) = num xs % 2 ^ (64 * k) ∧ num (xs.drop k) = num xs / 2 ^ (64 * k) := by
  have s := val_splitB 18446744073709551616 xs hk
  have hb : num (xs.take k) < 18446744073709551616 ^ k := by
    have := num_bd (h.take k)
    rw [List.length_take, Nat.min_eq_left hk] at this
    exact this
  have h0 : 0 ≤ num (xs.take k) := num_nonneg (h.take k)
  have p := p2pos (64 * k)
  have s' : num xs = num (xs.take k) + 2 ^ (64 * k) * num (xs.drop k) := by rw [← wpow2]; exact s
  rw [wpow2] at hb
  constructor
  · rw [s', Int.add_mul_emod_self_left, Int.emod_eq_of_lt h0 hb]
  · rw [s', Int.add_mul_ediv_left _ _ (by omega), Int.ediv_eq_zero_of_lt h0 hb, Int.zero_add]
theorem lifted_up {w : World} {a : Option Addr} {n cap : Nat} {xs : List Int} (hr : RowC w a n cap xs) (hx : Ws xs) (hn : n ≤ 4000000) (q : Nat) (hq : q ≤ 6000000) :
    Calls Tryz.prog 115 #[.slice a n cap, .int .i64 (q : Int)] w fun e w' => ∃ v, e = .returned (.tuple #[v, .bool false]) ∧ Own .u64 w' w.heap.size 22 v (words (num xs * 2 ^ (64 * q))) ∧ Below w.heap.size w w' := by
  have hu := up_any hr hx hn (64 * q) (by omega)
  have e : (((64 * q : Nat)) : Int) = (q : Int) * 64 := by omega
  rw [e] at hu
  clear e hr hx
  go_enter Tryz.func115, Tryz.ntmps115
  go_wp2_with fail
  refine hu.mono ?_
  rintro e w1 ⟨v, rfl, ho, hb⟩
  clear hu
  go_wp2
  go_ret2
  exact ⟨_, rfl, ho, hb⟩
set_option maxHeartbeats 1600000 in
set_option maxRecDepth 100000 in
theorem lifted_down {w : World} {b off n cap : Nat} {xs : List Int} (hr : RowC w (some ⟨b, off, none⟩) n cap xs) (hx : Ws xs) (hn : n ≤ 4000000) {k : Nat} (hk : 0 < k) (hkn : k < n) :
    Calls Tryz.prog 115 #[.slice (some ⟨b, off, none⟩) n cap, .int .i64 (-(k : Int))] w fun e w' => e = .returned (.tuple #[.slice (some ⟨b, off + k, none⟩) (n - k) (cap - k), .bool (decide (num (xs.take k) ≠ 0))]) ∧ ∃ d, w' = w.drewN d := by
  have hcap := hr.2.1
  have hcap2 := hr.2.2
  have hl := hr.1.1
  have hrk : ∀ d, RowC (w.drewN d) (some ⟨b, off, none⟩) k cap (xs.take k) := fun d => (RowC.later ⟨hr.1.cut (by omega), by omega, hr.2.2⟩ (below_drewN (Below.refl _ _) d))
  have hT : ∀ d, Calls Tryz.prog 66 #[.slice (some ⟨b, off, none⟩) k cap] (w.drewN d) fun e w' => e = .returned (.slice (some ⟨b, off, none⟩) (words (num (xs.take k))).length cap) ∧ w' = w.drewN d := fun d =>
    (trim_any (hrk d) (hx.take k) (by omega)).mono fun e w' h => ⟨h.1, h.2.2.2.2.symm⟩
  have hz := words_nil (N := num (xs.take k)) (num_nonneg (hx.take k))
  have tB : (((words (num (xs.take k))).length : Int) != 0) = decide (num (xs.take k) ≠ 0) := by
    rw [Bool.eq_iff_iff]; simp; rw [← hz]; simp
  generalize (words (num (xs.take k))).length = L at *
  generalize decide (num (xs.take k) ≠ 0) = B at *
  unfold maxLen at hcap2
  clear hr hx hz hrk hl
  go_enter Tryz.func115, Tryz.ntmps115
  go_wp2
  go_quiet ((go_at_call 66; exact (hT _).mono (fun _ _ h => ⟨h.1, _, h.2⟩)))
  go_wp2
  go_ret2
  exact ⟨rfl, _, rfl⟩
set_option maxHeartbeats 3200000 in
set_option maxRecDepth 100000 in
theorem quotient_any {w : World} {a b : Option Addr} {n m c1 c2 : Nat} {xs ys : List Int} (hr1 : RowC w a n c1 xs) (hr2 : RowC w b m c2 ys) (hx : Ws xs) (hy : Ws ys) (hn : n ≤ 3700000) (hm : m ≤ 3700000) {mode : Int} {neg : Bool} (h0 : 0 ≤ mode) (h1 : mode ≤ 4) (hD : 0 < num ys) (hG : GrVar w) :
    Calls Tryz.prog 85 #[.bool neg, .slice a n c1, .slice b m c2, .int .i64 mode] w fun e w' => ∃ v E, e = .returned (.tuple #[.int .u64 v, .int .i64 E]) ∧ RoundIs (scA (num xs) 0) (scB (num ys) 0) false neg mode v E ∧ U v ∧ Below w.heap.size w w' := by
  have hk := known_yes h0 h1 w
  have g1 := trim_any hr1 hx (by omega)
  have g2 := trim_any hr2 hy (by omega)
  have p1 := num_nonneg hx
  have hDl : num ys < 18446744073709551616 ^ (words (num ys)).length := by
    have := num_bd (Dg_words (num ys))
    rw [num_words (Int.le_of_lt hD)] at this
    exact this
  have hm1 : (words (num ys)).length ≠ 0 := fun h => by have := (words_nil (Int.le_of_lt hD)).mp h; omega
  have hNl : num xs = 0 ∨ (1 ≤ (words (num xs)).length ∧ (18446744073709551616 : Int) ^ ((words (num xs)).length - 1) ≤ num xs) := by
    by_cases h : num xs = 0
    · exact Or.inl h
    · right
      have h' : 0 < num xs := by omega
      exact ⟨by have := mt (words_nil p1).mp h; omega, words_ge h'⟩
  have wx := Dg_words (num xs)
  have wy := Dg_words (num ys)
  have vx := num_words p1
  have vy := num_words (Int.le_of_lt hD)
  have hz0 := words_nil p1
  clear hr1 hr2 hx hy
  generalize num xs = N at *
  generalize num ys = D at *
  generalize hps : words N = ps at *
  generalize hqs : words D = qs at *
  clear hps hqs
  obtain ⟨n1, hn1⟩ : ∃ n1, ps.length = n1 := ⟨_, rfl⟩
  obtain ⟨m1, hm1'⟩ : ∃ m1, qs.length = m1 := ⟨_, rfl⟩
  rw [hn1] at g1 hNl hz0
  rw [hm1'] at g2 hm1 hDl
  have HN1 : Hid (ps.length = n1) := hn1
  have HM1 : Hid (qs.length = m1) := hm1'
  clear hn1 hm1'
  have t0 : ((m1 : Int) == 0) = false := by simp; omega
  go_enter Tryz.func85, Tryz.ntmps85
  go_wp2_with fail
  refine g1.mono ?_
  rintro e w1 ⟨rfl, r1, _, hn1', rfl⟩
  go_wp2_with fail
  refine g2.mono ?_
  rintro e w2 ⟨rfl, r2, _, hm1', rfl⟩
  clear g1 g2
  go_wp2_with fail
  refine hk.mono ?_
  rintro e w1 ⟨rfl, rfl⟩
  clear hk
  by_cases hl : n1 ≤ m1 + 2
  · obtain ⟨q, hq⟩ : ∃ q : Nat, q + n1 = m1 + 2 := ⟨m1 + 2 - n1, by omega⟩
    have hqe : (m1 : Int) + 2 - (n1 : Int) = (q : Int) := by omega
    have hL := lifted_up r1 wx (by omega) q (by omega)
    rw [vx] at hL
    have hfin := fun b e => quot_up (N := N) (D := D) (mode := mode) (b := b) (e := e) (neg := neg) (q := q) p1 hD hDl hNl hq
    have hlt : Lt (N * 2 ^ (64 * q)) (m1 + 2) := by
      have hb : N < 18446744073709551616 ^ n1 := by have := num_bd wx; rw [vx, HN1.out] at this; exact this
      have p := p2pos (64 * q)
      refine ⟨Int.mul_nonneg p1 (by omega), ?_⟩
      have := Int.mul_lt_mul_of_pos_right hb p
      rw [← hq, Nat.add_comm, Int.pow_add, wpow2 q]
      exact this
    generalize N * 2 ^ (64 * q) = N' at *
    go_wp2_with fail
    refine hL.mono ?_
    rintro e w3 ⟨v3, rfl, o3, hb3⟩
    obtain ⟨a3, n3, c3, l3, rfl, r3, nm3, E3⟩ := o3.opens hlt (by omega)
    have hn3 := r3.1.1
    have hn3' := hlt.len
    rw [← E3.out, hn3] at hn3'
    have hDM := divMod_any r3 (r2.later hb3) nm3.ws wy (by omega) (by omega) (by rw [vy]; exact hD)
    rw [nm3.num, vy] at hDM
    clear hL o3
    go_wp2_with fail
    refine hDM.mono ?_
    rintro e w4 ⟨v4, v5, rfl, o4, o5, hb4, _⟩
    have hW0 : 0 ≤ N' / D := Int.ediv_nonneg hlt.1 (by omega)
    have hW1 : Lt (N' / D) (m1 + 2) := hlt.le hW0 (Int.ediv_le_self _ hlt.1)
    have hR0 : 0 ≤ N' % D := Int.emod_nonneg _ (by omega)
    have hR1 : Lt (N' % D) (m1 + 2) := hlt.le hR0 (emod_le' hlt.1 hD)
    obtain ⟨a4, n4, c4, l4, rfl, r4, nm4, E4⟩ := o4.opens hW1 (by omega)
    obtain ⟨a5, n5, c5, l5, rfl, r5, nm5, E5⟩ := o5.opens hR1 (by omega)
    have hn4 := r4.1.1
    have hn4' := hW1.len
    rw [← E4.out, hn4] at hn4'
    have hn5 := r5.1.1
    have hz5 := words_nil hR0
    rw [← E5.out, hn5] at hz5
    have tB : ((n5 : Int) != 0) = decide (N' % D ≠ 0) := bne_len hz5
    have hB4 := hb3.trans (hb4.mono hb3.size)
    have hS := fun more => scaled_go (x := -((64 * q : Nat) : Int)) (neg := neg) (more := more) r4 nm4.ws (by omega) (by omega) (by omega) h0 h1 (hG.later hB4)
    have ex : (-((64 * q : Nat) : Int)) = -(q : Int) * 64 := by omega
    have hS' := hS (decide (N' % D ≠ 0))
    rw [nm4.num] at hS'
    generalize decide (N' % D ≠ 0) = B at *
    have HF : Hid (∀ b e, RoundIs (scA (N' / D) (-((64 * q : Nat) : Int))) (scB 1 (-((64 * q : Nat) : Int))) B neg mode b e ↔ RoundIs (scA N 0) (scB D 0) false neg mode b e) := hfin
    rw [ex] at hS' HF
    clear hDM o4 o5 hS hz5 hn5 hn4 hn4' hn3 hn3' hfin ex hW0 hW1 hR0 hR1 hz0 hNl hDl r5 nm5 r3 nm3 E3 E4 E5 hb4
    go_wp2_with fail
    refine hS'.mono ?_
    rintro e w5 ⟨v, E, rfl, hR, hU, hb5⟩
    have HR := (HF.out v E).mp hR
    have hb := hB4.trans (hb5.mono hB4.size)
    clear hS' hR HF
    go_wp2
    go_ret2
    exact ⟨_, _, rfl, HR, hU, hb⟩
  · obtain ⟨k, hk⟩ : ∃ k : Nat, m1 + 2 + k = n1 := ⟨n1 - (m1 + 2), by omega⟩
    have hqe : (m1 : Int) + 2 - (n1 : Int) = -(k : Int) := by omega
    obtain ⟨b0, o0, rfl, _, _⟩ := r1.1.at (by omega)
    have hL := lifted_down r1 wx (by omega) (k := k) (by omega) (by omega)
    have hNl' : (18446744073709551616 : Int) ^ (n1 - 1) ≤ N := by
      rcases hNl with h | h
      · have := hz0.mpr h; omega
      · exact h.2
    have hfin := fun b e => quot_down (N := N) (D := D) (mode := mode) (b := b) (e := e) (neg := neg) (k := k) p1 hD hDl hNl' hk.symm
    obtain ⟨lo, hi⟩ := num_low_mod wx (k := k) (by rw [HN1.out]; omega)
    rw [vx] at lo hi
    rw [lo] at hL
    have r1d := r1.drop (o := k) (by omega)
    have wd := wx.drop k
    have hld : (ps.drop k).length = n1 - k := by rw [List.length_drop, HN1.out]
    have hM0 : 0 ≤ N / 2 ^ (64 * k) := by rw [← hi]; exact num_nonneg wd
    have hlt : Lt (N / 2 ^ (64 * k)) (n1 - k) := ⟨hM0, by rw [← hi, ← hld]; exact num_bd wd⟩
    generalize ps.drop k = ds at *
    generalize N / 2 ^ (64 * k) = N' at *
    generalize hB1 : decide (N % 2 ^ (64 * k) ≠ 0) = B1 at *
    clear hB1 lo
    go_wp2_with fail
    refine hL.mono ?_
    rintro e w3 ⟨rfl, d3, rfl⟩
    have hb3 : Below w.heap.size w (w.drewN d3) := below_drewN (Below.refl _ _) d3
    generalize w.drewN d3 = w3 at *
    have hDM := divMod_any (r1d.later hb3) (r2.later hb3) wd wy (by omega) (by omega) (by rw [vy]; exact hD)
    rw [hi, vy] at hDM
    clear hL
    go_wp2_with fail
    refine hDM.mono ?_
    rintro e w4 ⟨v4, v5, rfl, o4, o5, hb4, _⟩
    have hW0 : 0 ≤ N' / D := Int.ediv_nonneg hlt.1 (by omega)
    have hW1 : Lt (N' / D) (n1 - k) := hlt.le hW0 (Int.ediv_le_self _ hlt.1)
    have hR0 : 0 ≤ N' % D := Int.emod_nonneg _ (by omega)
    have hR1 : Lt (N' % D) (n1 - k) := hlt.le hR0 (emod_le' hlt.1 hD)
    obtain ⟨a4, n4, c4, l4, rfl, r4, nm4, E4⟩ := o4.opens hW1 (by omega)
    obtain ⟨a5, n5, c5, l5, rfl, r5, nm5, E5⟩ := o5.opens hR1 (by omega)
    have hn4 := r4.1.1
    have hn4' := hW1.len
    rw [← E4.out, hn4] at hn4'
    have hn5 := r5.1.1
    have hz5 := words_nil hR0
    rw [← E5.out, hn5] at hz5
    have tB : ((n5 : Int) != 0) = decide (N' % D ≠ 0) := bne_len hz5
    have hB4 := hb3.trans (hb4.mono hb3.size)
    have hS := fun more => scaled_go (x := ((64 * k : Nat) : Int)) (neg := neg) (more := more) r4 nm4.ws (by omega) (by omega) (by omega) h0 h1 (hG.later hB4)
    have ex : (((64 * k : Nat) : Int)) = (k : Int) * 64 := by omega
    have hS' := hS (B1 || decide (N' % D ≠ 0))
    rw [nm4.num] at hS'
    generalize decide (N' % D ≠ 0) = B at *
    have HF : Hid (∀ b e, RoundIs (scA (N' / D) ((64 * k : Nat) : Int)) (scB 1 ((64 * k : Nat) : Int)) (B1 || B) neg mode b e ↔ RoundIs (scA N 0) (scB D 0) false neg mode b e) := hfin
    rw [ex] at hS' HF
    clear hDM o4 o5 hS hz5 hn5 hn4 hn4' hfin ex hW0 hW1 hR0 hR1 hz0 hNl hNl' hDl r5 nm5 E4 E5 hb4 hi hld wd r1d
    cases B1
    · go_wp2_with fail
      refine hS'.mono ?_
      rintro e w5 ⟨v, E, rfl, hR, hU, hb5⟩
      have HR := (HF.out v E).mp hR
      have hb := hB4.trans (hb5.mono hB4.size)
      clear hS' hR HF
      go_wp2
      go_ret2
      exact ⟨_, _, rfl, HR, hU, hb⟩
    · go_wp2_with fail
      refine hS'.mono ?_
      rintro e w5 ⟨v, E, rfl, hR, hU, hb5⟩
      have HR := (HF.out v E).mp hR
      have hb := hB4.trans (hb5.mono hB4.size)
      clear hS' hR HF
      go_wp2
      go_ret2
      exact ⟨_, _, rfl, HR, hU, hb⟩
end Go.Proofs.YtceecgklgkiffabGreatDoor

