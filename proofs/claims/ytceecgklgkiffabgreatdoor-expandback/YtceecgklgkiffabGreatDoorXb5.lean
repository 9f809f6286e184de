import Derived.Laws.EntriesVeiled
import Derived.KernelRfl
import Derived.Below
import Derived.BigQuiet
import Derived.ChangeOld
import Derived.Deep.DeepCutAuto
import Derived.Deep.QuietTactic
import Derived.Deep.RegionWith
import Derived.Laws.BitsAllLaws
import Derived.Laws.CopyRow
import Derived.Laws.IdiomCopy
import Derived.Laws.IdiomRangeMap
import Derived.OpenShut
import Derived.OwnWalk
import Derived.ProofKit
import Derived.ShutString
import Derived.WalkKit
import Derived.WalkLawsBesides
import Derived.WalkSpells
import Derived.Test.YtceecgklgkiffabGreatDoorXb3
import Derived.Test.YtceecgklgkiffabGreatDoorXb4
/- package near: the table, the five modes. -/
namespace Go.Proofs.YtceecgklgkiffabGreatDoor
open Go.ChangeShapes Go.WideShapes Go.ChangeAt Go.RowKit
open Na Ar
set_option linter.unusedVariables false
/-- which numbers beyond the greatest stay there: the table's cells -/
def GrVar (w : World) : Prop :=
  (w.cell? ⟨3, 0, none⟩ = some (.bool false) ∧ w.cell? ⟨3, 1, none⟩ = some (.bool false)) ∧ (w.cell? ⟨3, 2, none⟩ = some (.bool true) ∧ w.cell? ⟨3, 3, none⟩ = some (.bool true)) ∧
  (w.cell? ⟨3, 4, none⟩ = some (.bool false) ∧ w.cell? ⟨3, 5, none⟩ = some (.bool false)) ∧ (w.cell? ⟨3, 6, none⟩ = some (.bool false) ∧ w.cell? ⟨3, 7, none⟩ = some (.bool true)) ∧
  w.cell? ⟨3, 8, none⟩ = some (.bool true) ∧ w.cell? ⟨3, 9, none⟩ = some (.bool false)
theorem cell_lt7 {w : World} {a : Addr} {v : Value} (h : w.cell? a = some v) : a.block < w.heap.size := by
  unfold World.cell? at h
  apply Decidable.byContradiction
  intro hc
  rw [Array.getElem?_eq_none (by omega)] at h
  cases h
theorem GrVar.lt {w : World} (h : GrVar w) : 3 < w.heap.size := cell_lt7 h.1.1
theorem GrVar.later {w w' : World} (h : GrVar w) (hb : Below w.heap.size w w') : GrVar w' := by
  have hl := h.lt
  have hc : ∀ i, w'.cell? ⟨3, i, none⟩ = w.cell? ⟨3, i, none⟩ := fun i => hb.cell (p := ⟨3, i, none⟩) hl
  unfold GrVar at *
  simp only [hc]
  exact h
theorem known_yes {m : Int} (h0 : 0 ≤ m) (h1 : m ≤ 4) (w : World) : Calls Tryz.prog 84 #[.int .i64 m] w fun e w' => e = .returned (.bool true) ∧ w = w' := by
  rcases mode_cases h0 h1 with rfl | rfl | rfl | rfl | rfl <;> (go_enter Tryz.func84, Tryz.ntmps84; go_wp2; go_ret; exact ⟨rfl, rfl⟩)
/-- a mode's function -/
def fnK (neg : Bool) (mode : Int) : Nat := if mode = 0 then 174 else if stK neg mode = true then 175 else 173
set_option maxHeartbeats 1600000 in
set_option maxRecDepth 100000 in
theorem wayOf_any {neg : Bool} {mode : Int} (h0 : 0 ≤ mode) (h1 : mode ≤ 4) {w : World} (hG : GrVar w) :
    Calls Tryz.prog 144 #[.bool neg, .int .i64 mode] w fun e w' => e = .returned (.agg #[.bool (stK neg mode), .func (.func (fnK neg mode)) #[] #[]]) ∧ Below w.heap.size w w' := by
  have hl := hG.lt
  have q2 : ∀ (A B : Obj) (k : Nat), ((w.alloc A).alloc B).cell? ⟨3, k, none⟩ = w.cell? ⟨3, k, none⟩ := fun A B k => by
    have b1 := alloc_below (w := w) A
    have b2 := alloc_below (w := w.alloc A) B
    exact (b1.trans (b2.mono b1.size)).cell (p := ⟨3, k, none⟩) hl
  have g0 := fun A B => (q2 A B 0).trans hG.1.1
  have g1 := fun A B => (q2 A B 1).trans hG.1.2
  have g2 := fun A B => (q2 A B 2).trans hG.2.1.1
  have g3 := fun A B => (q2 A B 3).trans hG.2.1.2
  have g4 := fun A B => (q2 A B 4).trans hG.2.2.1.1
  have g5 := fun A B => (q2 A B 5).trans hG.2.2.1.2
  have g6 := fun A B => (q2 A B 6).trans hG.2.2.2.1.1
  have g7 := fun A B => (q2 A B 7).trans hG.2.2.2.1.2
  have g8 := fun A B => (q2 A B 8).trans hG.2.2.2.2.1
  have g9 := fun A B => (q2 A B 9).trans hG.2.2.2.2.2
  clear q2
  obtain ⟨⟨c0, c1⟩, ⟨c2, c3⟩, ⟨c4, c5⟩, ⟨c6, c7⟩, c8, c9⟩ := hG
  obtain ⟨V, hV⟩ : ∃ V, V = Value.agg #[.bool (stK neg mode), .func (.func (fnK neg mode)) #[] #[]] := ⟨_, rfl⟩
  rw [← hV]
  have HV : Hid (V = Value.agg #[.bool (stK neg mode), .func (.func (fnK neg mode)) #[] #[]]) := hV
  clear hV
  rcases mode_cases h0 h1 with rfl | rfl | rfl | rfl | rfl <;> cases neg
  all_goals
    go_enter Tryz.func144, Tryz.ntmps144
    go_wp2
    refine bodyPost_ret (v := V) (by rw [HV.out]; simp [results, Tryz.results144, go_sem] <;> exact ⟨rfl, rfl⟩) rfl ?_
    refine ⟨rfl, ?_⟩
    repeat (first | exact Below.refl _ _ | refine Below.setCell ?_ (by simp) _ | refine Below.alloc ?_ (by simp) _)
/-- what is asked of a mode's function -/
theorem nearest_any {m k : Int} (hm : U m) (w : World) : Calls Tryz.prog 174 #[.int .u64 m, .int .i64 k] w fun e w' => e = .returned (.bool (onK false 0 m k)) ∧ w = w' := by
  by_cases k3 : k = 3
  · subst k3
    go_enter Tryz.func174, Tryz.ntmps174; go_wp2; go_ret; exact ⟨rfl, rfl⟩
  · have t1 : (k == 3) = false := by simp [k3]
    by_cases k2 : k = 2
    · have t2 : (k == 2) = true := by simp [k2]
      have HE : Hid ((m.tmod 2 == 1) = onK false 0 m k) := by
        show _ = _
        rw [Int.tmod_eq_emod_of_nonneg hm.1]
        unfold onK; rw [if_pos rfl, k2]; simp; rw [Bool.eq_iff_iff]; simp
      clear k2 k3
      go_enter Tryz.func174, Tryz.ntmps174; go_wp2; go_ret
      exact ⟨by rw [← HE.out]; rfl, rfl⟩
    · have t2 : (k == 2) = false := by simp [k2]
      have HE : Hid (false = onK false 0 m k) := by
        show _ = _
        unfold onK; rw [if_pos rfl]; simp [k2, k3]
      clear k2 k3
      go_enter Tryz.func174, Tryz.ntmps174; go_wp2; go_ret
      exact ⟨by rw [← HE.out]; rfl, rfl⟩
theorem inward_any (m k : Int) (w : World) : Calls Tryz.prog 175 #[.int .u64 m, .int .i64 k] w fun e w' => e = .returned (.bool false) ∧ w = w' := by
  go_enter Tryz.func175, Tryz.ntmps175; go_wp2; go_ret; exact ⟨rfl, rfl⟩
theorem outward_any (m k : Int) (w : World) : Calls Tryz.prog 173 #[.int .u64 m, .int .i64 k] w fun e w' => e = .returned (.bool (k != 0)) ∧ w = w' := by
  go_enter Tryz.func173, Tryz.ntmps173; go_wp2; go_ret; exact ⟨rfl, rfl⟩
/-- which of the three -/
theorem fnK_cases {neg : Bool} {mode : Int} (h0 : 0 ≤ mode) (h1 : mode ≤ 4) : (fnK neg mode = 174 ∧ mode = 0 ∧ stK neg mode = false) ∨ (fnK neg mode = 175 ∧ stK neg mode = true ∧ ∀ m k, onK neg mode m k = false) ∨ (fnK neg mode = 173 ∧ stK neg mode = false ∧ ∀ m k, onK neg mode m k = (k != 0)) := by
  rcases mode_cases h0 h1 with rfl | rfl | rfl | rfl | rfl <;> cases neg
  · left; exact ⟨rfl, rfl, rfl⟩
  · left; exact ⟨rfl, rfl, rfl⟩
  · right; left; exact ⟨rfl, rfl, fun _ _ => rfl⟩
  · right; left; exact ⟨rfl, rfl, fun _ _ => rfl⟩
  · right; right; refine ⟨rfl, rfl, fun _ k => ?_⟩; simp [onK]; rw [Bool.eq_iff_iff]; simp
  · right; right; refine ⟨rfl, rfl, fun _ k => ?_⟩; simp [onK]; rw [Bool.eq_iff_iff]; simp
  · right; right; refine ⟨rfl, rfl, fun _ k => ?_⟩; simp [onK]; rw [Bool.eq_iff_iff]; simp
  · right; left; exact ⟨rfl, rfl, fun _ _ => rfl⟩
  · right; left; exact ⟨rfl, rfl, fun _ _ => rfl⟩
  · right; right; refine ⟨rfl, rfl, fun _ k => ?_⟩; simp [onK]; rw [Bool.eq_iff_iff]; simp
end Go.Proofs.YtceecgklgkiffabGreatDoor

/- package near: what lies behind, the cut. -/
namespace Go.Proofs.YtceecgklgkiffabGreatDoor
open Go.ChangeShapes Go.WideShapes Go.ChangeAt Go.RowKit
open Na Ar
set_option linter.unusedVariables false
theorem kK_11 {z D : Int} {more : Bool} (h : more = true ∨ z < D - 1) : kK 1 z D more = 3 := by unfold kK; rw [if_pos rfl, if_pos h]
theorem kK_10 {z D : Int} {more : Bool} (h : ¬ (more = true ∨ z < D - 1)) : kK 1 z D more = 2 := by unfold kK; rw [if_pos rfl, if_neg h]
theorem kK_01 {q z D : Int} {more : Bool} (hq : q ≠ 1) (h : more = true ∨ z < D - 1) : kK q z D more = 1 := by unfold kK; rw [if_neg hq, if_pos h]
theorem kK_00 {q z D : Int} {more : Bool} (hq : q ≠ 1) (h : ¬ (more = true ∨ z < D - 1)) : kK q z D more = 0 := by unfold kK; rw [if_neg hq, if_neg h]
set_option maxHeartbeats 1600000 in
set_option maxRecDepth 100000 in
theorem nearBehind_any {w : World} {a : Option Addr} {n c : Nat} {xs : List Int} (hr : RowC w a n c xs) (hx : Ws xs) (hn : n ≤ 4000000) {D : Int} (d0 : -4611686018427387904 ≤ D) (d1 : D ≤ 4611686018427387904) (more : Bool) :
    Calls Tryz.prog 176 #[.slice a n c, .int .i64 D, .bool more] w fun e w' => e = .returned (.int .i64 (kK (bitN (num xs) (D - 1)) (zerosN (num xs)) D more)) ∧ Below w.heap.size w w' := by
  have hbit := natBit_any hr hx hn (D - 1) (by omega)
  have hze := fun w1 (h : Below w.heap.size w w1) => natZeros_any (hr.later h) hx hn
  generalize bitN (num xs) (D - 1) = q at *
  generalize zerosN (num xs) = z at *
  obtain ⟨K, hK⟩ : ∃ K, K = kK q z D more := ⟨_, rfl⟩
  rw [← hK]
  have HK : Hid (K = kK q z D more) := hK
  clear hK hr hx
  by_cases hq : q = 1
  · have t1 : (q == 1) = true := by simp [hq]
    cases more
    · by_cases hz : z < D - 1
      · have HE : Hid (3 = K) := by show _ = _; rw [HK.out, hq, kK_11 (Or.inr hz)]
        clear hq HK
        go_enter Tryz.func176, Tryz.ntmps176
        go_wp2_with fail
        refine hbit.mono ?_
        rintro e w1 ⟨rfl, hb1⟩
        have h2 := hze w1 hb1
        clear hze hbit
        go_wp2_with fail
        refine h2.mono ?_
        rintro e w2 ⟨rfl, hb2⟩
        have hb := hb1.trans (hb2.mono hb1.size)
        clear h2
        go_wp2
        go_ret
        exact ⟨ret_i HE.out, hb⟩
      · have HE : Hid (2 = K) := by show _ = _; rw [HK.out, hq, kK_10 (fun h => h.elim (by simp) hz)]
        clear hq HK
        go_enter Tryz.func176, Tryz.ntmps176
        go_wp2_with fail
        refine hbit.mono ?_
        rintro e w1 ⟨rfl, hb1⟩
        have h2 := hze w1 hb1
        clear hze hbit
        go_wp2_with fail
        refine h2.mono ?_
        rintro e w2 ⟨rfl, hb2⟩
        have hb := hb1.trans (hb2.mono hb1.size)
        clear h2
        go_wp2
        go_ret
        exact ⟨ret_i HE.out, hb⟩
    · have HE : Hid (3 = K) := by show _ = _; rw [HK.out, hq, kK_11 (Or.inl rfl)]
      clear hq HK
      go_enter Tryz.func176, Tryz.ntmps176
      go_wp2_with fail
      refine hbit.mono ?_
      rintro e w1 ⟨rfl, hb1⟩
      clear hze hbit
      go_wp2
      go_ret
      exact ⟨ret_i HE.out, hb1⟩
  · have t1 : (q == 1) = false := by simp [hq]
    cases more
    · by_cases hz : z < D - 1
      · have HE : Hid (1 = K) := by show _ = _; rw [HK.out, kK_01 hq (Or.inr hz)]
        clear hq HK
        go_enter Tryz.func176, Tryz.ntmps176
        go_wp2_with fail
        refine hbit.mono ?_
        rintro e w1 ⟨rfl, hb1⟩
        have h2 := hze w1 hb1
        clear hze hbit
        go_wp2_with fail
        refine h2.mono ?_
        rintro e w2 ⟨rfl, hb2⟩
        have hb := hb1.trans (hb2.mono hb1.size)
        clear h2
        go_wp2
        go_ret
        exact ⟨ret_i HE.out, hb⟩
      · have HE : Hid (0 = K) := by show _ = _; rw [HK.out, kK_00 hq (fun h => h.elim (by simp) hz)]
        clear hq HK
        go_enter Tryz.func176, Tryz.ntmps176
        go_wp2_with fail
        refine hbit.mono ?_
        rintro e w1 ⟨rfl, hb1⟩
        have h2 := hze w1 hb1
        clear hze hbit
        go_wp2_with fail
        refine h2.mono ?_
        rintro e w2 ⟨rfl, hb2⟩
        have hb := hb1.trans (hb2.mono hb1.size)
        clear h2
        go_wp2
        go_ret
        exact ⟨ret_i HE.out, hb⟩
    · have HE : Hid (1 = K) := by show _ = _; rw [HK.out, kK_01 hq (Or.inl rfl)]
      clear hq HK
      go_enter Tryz.func176, Tryz.ntmps176
      go_wp2_with fail
      refine hbit.mono ?_
      rintro e w1 ⟨rfl, hb1⟩
      clear hze hbit
      go_wp2
      go_ret
      exact ⟨ret_i HE.out, hb1⟩
/-- the exponent, held -/
def heldX (L x : Int) : Int := if L = 0 then -1074 else min (max x (-1152921504606846976)) 1152921504606846976
theorem small_res {N : Int} (h0 : 0 ≤ N) (h1 : N < 18446744073709551616) : resL N = words N ∧ resE N = 0 := (Lt.word ⟨h0, h1⟩).fits (by omega)
theorem bits_char {N : Int} (h : 0 < N) : 1 ≤ bitsN N ∧ e2 (bitsN N - 1) ≤ N ∧ N < e2 (bitsN N) := by
  obtain ⟨b, e, h1, h2⟩ := bits_some h
  rw [e]
  unfold e2
  have k1 : ((b : Int) + 1 - 1).toNat = b := by omega
  have k2 : ((b : Int) + 1).toNat = b + 1 := by omega
  rw [k1, k2]
  exact ⟨by omega, h1, h2⟩
theorem e2_max (D : Int) : e2 (if D < 0 then 0 else D) = e2 D := by
  by_cases h : D < 0
  · rw [if_pos h, e2_zero (Int.le_refl 0), e2_zero (by omega)]
  · rw [if_neg h]
theorem cut_lt {M L x : Int} (h0 : 0 ≤ M) (hL : 0 ≤ L) (hb : 0 < M → 1 ≤ L ∧ e2 (L - 1) ≤ M ∧ M < e2 L) : 0 ≤ cutM M L x ∧ cutM M L x < 9007199254740992 ∧ 0 ≤ M / e2 (cutX L x - x) ∧ M / e2 (cutX L x - x) < 9007199254740992 := by
  have hp := e2_pos (cutX L x - x)
  have hq := e2_pos (-(cutX L x - x))
  have d0 : 0 ≤ M / e2 (cutX L x - x) := Int.ediv_nonneg h0 (by omega)
  have key : M / e2 (cutX L x - x) ≤ cutM M L x := by
    unfold cutM
    have := Int.mul_le_mul_of_nonneg_left (show (1 : Int) ≤ e2 (-(cutX L x - x)) by omega) d0
    omega
  by_cases hM : 0 < M
  · obtain ⟨g1, g2, g3⟩ := hb hM
    obtain ⟨f0, f1, _⟩ := cut_form (x := x) hM g1 g2 g3
    exact ⟨f0, f1, d0, by omega⟩
  · have : M = 0 := by omega
    subst this
    have e : cutM 0 L x = 0 := by unfold cutM; rw [Int.zero_ediv, Int.zero_mul]
    rw [e] at key ⊢
    exact ⟨by omega, by omega, d0, by omega⟩
set_option maxHeartbeats 1600000 in
set_option maxRecDepth 100000 in
theorem cut_any {w : World} {a : Option Addr} {n c : Nat} {xs : List Int} (hr : RowC w a n c xs) (hx : Ws xs) (hn : n ≤ 4000000) {x : Int} (x0 : -9223372036854775808 ≤ x) (x1 : x ≤ 9223372036854775807) (more : Bool) :
    Calls Tryz.prog 145 #[.slice a n c, .int .i64 x, .bool more] w fun e w' => e = .returned (.tuple #[.int .u64 (cutM (num xs) (bitsN (num xs)) (heldX (bitsN (num xs)) x)), .int .i64 (cutX (bitsN (num xs)) (heldX (bitsN (num xs)) x)), .int .i64 (kK (bitN (num xs) (cutX (bitsN (num xs)) (heldX (bitsN (num xs)) x) - heldX (bitsN (num xs)) x - 1)) (zerosN (num xs)) (cutX (bitsN (num xs)) (heldX (bitsN (num xs)) x) - heldX (bitsN (num xs)) x) more)]) ∧ Below w.heap.size w w' := by
  have hbit := bits0_any hr hx hn
  have l1 := hr.1.1
  have p1 := num_nonneg hx
  have hble := bits_le (N := num xs) (k := xs.length) p1 (num_bd hx)
  have hbn := bits_nonneg (num xs)
  have hch : 0 < num xs → 1 ≤ bitsN (num xs) ∧ e2 (bitsN (num xs) - 1) ≤ num xs ∧ num xs < e2 (bitsN (num xs)) := bits_char
  generalize bitsN (num xs) = L at *
  obtain ⟨Y, hY⟩ : ∃ Y, Y = heldX L x := ⟨_, rfl⟩
  rw [← hY]
  have hYb : -1152921504606846976 ≤ Y ∧ Y ≤ 1152921504606846976 := by rw [hY]; unfold heldX; split <;> omega
  have hlt := cut_lt (x := Y) p1 hbn hch
  have hA : cutX L Y = max (Y + L - 53) (-1074) := rfl
  have HM : Hid (cutM (num xs) L Y = num xs / e2 (cutX L Y - Y) * e2 (-(cutX L Y - Y))) := rfl
  generalize cutM (num xs) L Y = N2 at *
  generalize cutX L Y = A at *
  obtain ⟨D, hD⟩ : ∃ D, D = A - Y := ⟨_, rfl⟩
  rw [← hD] at hlt HM ⊢
  have dA : D + Y = A := by omega
  obtain ⟨T1, hT1⟩ : ∃ T1, T1 = if D < 0 then 0 else D := ⟨_, rfl⟩
  obtain ⟨T2, hT2⟩ : ∃ T2, T2 = if -D < 0 then 0 else -D := ⟨_, rfl⟩
  have b1 : 0 ≤ T1 ∧ T1 ≤ 4611686018427387904 := by rw [hT1]; split <;> omega
  have b2 : 0 ≤ T2 ∧ T2 ≤ 4611686018427387904 := by rw [hT2]; split <;> omega
  obtain ⟨N1, hN1⟩ : ∃ N1, N1 = num xs / e2 D := ⟨_, rfl⟩
  rw [← hN1] at hlt HM
  have q1 : num xs / 2 ^ T1.toNat = N1 := by
    have := e2_max D
    rw [← hT1] at this
    rw [hN1, ← this]; rfl
  have q2 : N1 * 2 ^ T2.toNat = N2 := by
    have := e2_max (-D)
    rw [← hT2] at this
    rw [HM.out, ← this]; rfl
  obtain ⟨n20, n21, n10, n11⟩ := hlt
  have s1 : Hid (shrL (num xs) T1 = words N1) := by
    show _ = _
    unfold shrL; rw [if_neg (by omega), q1]; exact (small_res n10 (by omega)).1
  have s2 : Hid (shlL N1 T2 = words N2) := by
    show _ = _
    unfold shlL; rw [if_neg (by omega), q2]; exact (small_res n20 (by omega)).1
  have hS := natShr_any hr hx hn T1 (by omega)
  rw [s1.out] at hS
  generalize shrB (num xs) T1 = B1 at hS
  generalize shrE (num xs) T1 = E1 at hS
  have hbe := fun w1 (h : Below w.heap.size w w1) => nearBehind_any (hr.later h) hx hn (D := D) (by omega) (by omega) more
  generalize kK (bitN (num xs) (D - 1)) (zerosN (num xs)) D more = K at *
  clear hN1 q1 q2 HM hch hr hx p1
  obtain ⟨Y1, r1⟩ : ∃ Y1, (if x < -1152921504606846976 then (-1152921504606846976 : Int) else x) = Y1 := ⟨_, rfl⟩
  obtain ⟨Z, r2⟩ : ∃ Z, (if 1152921504606846976 < Y1 then (1152921504606846976 : Int) else Y1) = Z := ⟨_, rfl⟩
  by_cases hL0 : L = 0
  · subst hL0
    have hY' : Y = -1074 := by rw [hY]; unfold heldX; rw [if_pos rfl]
    have hA' : A = -1074 := by omega
    have hD' : D = 0 := by omega
    have hT1' : T1 = 0 := by rw [hT1, hD']; rfl
    have hT2' : T2 = 0 := by rw [hT2, hD']; rfl
    clear hY hA hD hT1 hT2 dA
    subst hY' hA' hD' hT1' hT2'
    clear hYb b1 b2 hble hbn
    · go_enter Tryz.func145, Tryz.ntmps145
      go_wp2_with fail
      refine hbit.mono ?_
      rintro e w1 ⟨rfl, rfl⟩
      clear hbit
      go_wp2_with fail
      refine hS.mono ?_
      rintro e w2 ⟨v2, rfl, o2, hb2⟩
      obtain ⟨a2, n2, c2, l2, rfl, r2, m2, E2⟩ := o2.opens (k := 1) (Lt.word ⟨n10, by omega⟩) (by omega)
      have hl2 := r2.1.1
      have hl2' := (Lt.word (x := N1) ⟨n10, by omega⟩).len
      rw [← E2.out, hl2] at hl2'
      have hS2 := natShl_any r2 m2.ws (by omega) 0 (by omega)
      rw [m2.num, s2.out] at hS2
      generalize shlE N1 0 = E3 at hS2
      clear hS o2
      go_wp2_with fail
      refine hS2.mono ?_
      rintro e w3 ⟨v3, rfl, o3, hb3⟩
      obtain ⟨a3, n3, c3, l3, rfl, r3', m3, E4⟩ := o3.opens (k := 1) (Lt.word ⟨n20, by omega⟩) (by omega)
      have hl3 := r3'.1.1
      have hl3' := (Lt.word (x := N2) ⟨n20, by omega⟩).len
      rw [← E4.out, hl3] at hl3'
      have hW := natWord_any r3' m3.ws (by omega)
      have e5 : wordV N2 = N2 := by unfold wordV; rw [if_pos (by omega)]
      rw [m3.num, e5] at hW
      generalize wordB N2 = B3 at hW
      clear hS2 o3 e5
      go_wp2_with fail
      refine hW.mono ?_
      rintro e w4 ⟨rfl, hb4⟩
      have hb34 := (hb2.trans (hb3.mono hb2.size)).trans (hb4.mono (Nat.le_trans hb2.size hb3.size))
      have hB := hbe w4 hb34
      clear hbe hW r2 r3' m2 m3 E2 E4 hl2 hl2' hl3 hl3'
      go_wp2_with fail
      refine hB.mono ?_
      rintro e w5 ⟨rfl, hb5⟩
      have hb := hb34.trans (hb5.mono hb34.size)
      clear hB
      go_wp2
      go_ret3
      exact ⟨rfl, hb⟩
  · have t0 : (L == 0) = false := by simp [hL0]
    have hZ : Z = Y := by
      rw [hY, ← r2, ← r1]
      unfold heldX
      rw [if_neg hL0]
      split <;> split <;> omega
    rw [hZ] at r2
    clear hZ
    have r3 : (if Y + L - 53 < -1074 then (-1074 : Int) else Y + L - 53) = A := by rw [hA]; split <;> omega
    have r4 : A - Y = D := hD.symm
    have r5 : (if D < 0 then (0 : Int) else D) = T1 := hT1.symm
    have r6 : (if -D < 0 then (0 : Int) else -D) = T2 := hT2.symm
    have r7 : (if 0 < D then (0 : Int) else -D) = T2 := by rw [← r6]; split <;> split <;> omega
    obtain ⟨y0, y1⟩ := hYb
    have d0 : -4611686018427387904 ≤ D ∧ D ≤ 4611686018427387904 := by omega
    have aB : -1074 ≤ A ∧ A ≤ 2305843009213693952 := by omega
    clear hY hA hD hT1 hT2 dA hL0
    · go_enter Tryz.func145, Tryz.ntmps145
      go_wp2_with fail
      refine hbit.mono ?_
      rintro e w1 ⟨rfl, rfl⟩
      clear hbit
      go_wp2_with fail
      refine hS.mono ?_
      rintro e w2 ⟨v2, rfl, o2, hb2⟩
      obtain ⟨a2, n2, c2, l2, rfl, r2, m2, E2⟩ := o2.opens (k := 1) (Lt.word ⟨n10, by omega⟩) (by omega)
      have hl2 := r2.1.1
      have hl2' := (Lt.word (x := N1) ⟨n10, by omega⟩).len
      rw [← E2.out, hl2] at hl2'
      have hS2 := natShl_any r2 m2.ws (by omega) T2 (by omega)
      rw [m2.num, s2.out] at hS2
      generalize shlE N1 T2 = E3 at hS2
      clear hS o2
      go_wp2_with fail
      refine hS2.mono ?_
      rintro e w3 ⟨v3, rfl, o3, hb3⟩
      obtain ⟨a3, n3, c3, l3, rfl, r3', m3, E4⟩ := o3.opens (k := 1) (Lt.word ⟨n20, by omega⟩) (by omega)
      have hl3 := r3'.1.1
      have hl3' := (Lt.word (x := N2) ⟨n20, by omega⟩).len
      rw [← E4.out, hl3] at hl3'
      have hW := natWord_any r3' m3.ws (by omega)
      have e5 : wordV N2 = N2 := by unfold wordV; rw [if_pos (by omega)]
      rw [m3.num, e5] at hW
      generalize wordB N2 = B3 at hW
      clear hS2 o3 e5
      go_wp2_with fail
      refine hW.mono ?_
      rintro e w4 ⟨rfl, hb4⟩
      have hb34 := (hb2.trans (hb3.mono hb2.size)).trans (hb4.mono (Nat.le_trans hb2.size hb3.size))
      have hB := hbe w4 hb34
      clear hbe hW r2 r3' m2 m3 E2 E4 hl2 hl2' hl3 hl3'
      go_wp2_with fail
      refine hB.mono ?_
      rintro e w5 ⟨rfl, hb5⟩
      have hb := hb34.trans (hb5.mono hb34.size)
      clear hB
      go_wp2
      go_ret3
      exact ⟨rfl, hb⟩
end Go.Proofs.YtceecgklgkiffabGreatDoor

/- Plain numbers: what near.Scaled comes to. -/
namespace Go.Proofs.YtceecgklgkiffabGreatDoor
open Go.ChangeShapes Go.WideShapes Go.ChangeAt Go.RowKit
open Na Ar
set_option linter.unusedVariables false
theorem zeros_char {N : Int} (h : 0 < N) : ∃ u, 0 ≤ zerosN N ∧ u % 2 = 1 ∧ N = e2 (zerosN N) * u := by
  obtain ⟨k, m, hk⟩ := odd_part N.toNat (by omega)
  have e : N = 2 ^ k * (2 * (m : Int) + 1) := by
    have : N = ((2 ^ (k + 1) * m + 2 ^ k : Nat) : Int) := by omega
    rw [this, Int.natCast_add, Int.natCast_mul, p2cast, p2cast, Int.pow_succ]
    grind
  have hz : zerosN N = k := zerosN_eq e (by omega) (by omega)
  refine ⟨2 * (m : Int) + 1, by omega, by omega, ?_⟩
  rw [hz]
  unfold e2
  rw [Int.toNat_natCast]
  exact e
theorem join_cut {m X : Int} (h0 : 0 ≤ m) (h1 : m < 9007199254740992) (hX : -1074 ≤ X) (h2 : X = -1074 ∨ 4503599627370496 ≤ m) :
    (X ≤ 971 → JoinIs false m X ((X + 1074) * 4503599627370496 + m) 0) ∧ (971 < X → JoinIs false m X 0 61) := by
  have hs : sgB false = 0 := rfl
  by_cases hm : m = 0
  · have : X = -1074 := by omega
    subst hm this
    refine ⟨fun _ => Or.inl ⟨rfl, by rw [hs]; rfl, rfl⟩, fun h => by omega⟩
  · have hn : Nf m X m X := ⟨sm_refl m X, hX, by omega, h1, h2⟩
    refine ⟨fun h => Or.inr ⟨hm, Or.inl ⟨m, X, hn, h, by rw [hs]; omega, rfl⟩⟩, fun h => Or.inr ⟨hm, Or.inr ⟨fun M Y hY => ?_, rfl, rfl⟩⟩⟩
    obtain ⟨_, rfl⟩ := nf_uniq hn hY
    exact h
theorem ends_to {A B A' B' mode d m k : Int} {more neg : Bool} (h : ∀ b e, RoundIs A B more neg mode b e → RoundIs A' B' more neg mode b e) (c : CutEnds A B more neg mode d m k) : CutEnds A' B' more neg mode d m k :=
  ⟨fun g => h _ _ (c.1 g), fun g g' => h _ _ (c.2.1 g g'), fun g g' => h _ _ (c.2.2 g g')⟩
/-- the cut's answer, and what it means -/
theorem cut_tells {M x mode : Int} {more neg : Bool} (h0 : 0 ≤ M) (hb : bitsN M ≤ 576460752303423488) (hm0 : 0 ≤ mode) (hm1 : mode ≤ 4) :
    ∃ m X k, cutM M (bitsN M) (heldX (bitsN M) x) = m ∧ cutX (bitsN M) (heldX (bitsN M) x) = X ∧ kK (bitN M (cutX (bitsN M) (heldX (bitsN M) x) - heldX (bitsN M) x - 1)) (zerosN M) (cutX (bitsN M) (heldX (bitsN M) x) - heldX (bitsN M) x) more = k ∧
      0 ≤ m ∧ m < 9007199254740992 ∧ -1074 ≤ X ∧ X ≤ 2305843009213693952 ∧ (X = -1074 ∨ 4503599627370496 ≤ m) ∧ (X ≤ 971 → 0 ≤ (X + 1074) * 4503599627370496 + m ∧ (X + 1074) * 4503599627370496 + m ≤ mostP ∧ CutEnds (scA M x) (scB 1 x) more neg mode ((X + 1074) * 4503599627370496 + m) m k) ∧
      (971 < X → (numW mostP + nxtN mostP) * scB 1 x < 2 * scA M x) := by
  refine ⟨_, _, _, rfl, rfl, rfl, ?_⟩
  by_cases hM : 0 < M
  · obtain ⟨L1, L2, L3⟩ := bits_char hM
    have hL0 : bitsN M ≠ 0 := by omega
    have hX : heldX (bitsN M) x = min (max x (-1152921504606846976)) 1152921504606846976 := by unfold heldX; rw [if_neg hL0]
    rw [hX]
    obtain ⟨f0, f1, f2⟩ := cut_form (x := min (max x (-1152921504606846976)) 1152921504606846976) hM L1 L2 L3
    have hc0 : cutX (bitsN M) (min (max x (-1152921504606846976)) 1152921504606846976) = max (min (max x (-1152921504606846976)) 1152921504606846976 + bitsN M - 53) (-1074) := rfl
    have p0 : -1074 ≤ cutX (bitsN M) (min (max x (-1152921504606846976)) 1152921504606846976) := by omega
    refine ⟨f0, f1, p0, by omega, f2, fun h => ?_, fun h => ?_⟩
    · obtain ⟨q0, q1, _⟩ := pat_at f0 f1 p0 h f2
      refine ⟨q0, q1, ?_⟩
      obtain ⟨u, z0, u1, u2⟩ := zeros_char hM
      have c := cut_round (x := min (max x (-1152921504606846976)) 1152921504606846976) (more := more) (neg := neg) hM L1 L2 L3 z0 u1 u2 hm0 hm1 h
      have eb : ∀ i, bitE M i = bitN M i := fun i => by unfold bitE bitN e2; rfl
      rw [eb] at c
      exact ends_to (fun b e hr => far_same hM L1 L2 L3 (by omega) hm0 hm1 hr) c
    · refine cut_huge L2 L1 ?_
      omega
  · have : M = 0 := by omega
    subst this
    have hL : bitsN 0 = 0 := rfl
    have hX : heldX 0 x = -1074 := by unfold heldX; rw [if_pos rfl]
    have hc : cutX 0 (-1074) = -1074 := by unfold cutX; omega
    rw [hL, hX, hc]
    have hm : cutM 0 0 (-1074) = 0 := by unfold cutM; rw [Int.zero_ediv, Int.zero_mul]
    rw [hm]
    have hk : kK (bitN 0 (-1074 - -1074 - 1)) (zerosN 0) (-1074 - -1074) more = if more = true then 1 else 0 := by
      rw [zerosN_zero]
      have : bitN 0 (-1074 - -1074 - 1) = 0 := rfl
      rw [this]
      unfold kK
      rw [if_neg (by omega)]
      cases more <;> simp
    rw [hk]
    refine ⟨by omega, by omega, by omega, by omega, Or.inl rfl, fun _ => ⟨by omega, by unfold mostP; omega, ?_⟩, fun h => by omega⟩
    exact cut_none hm0 hm1
/-- beyond the greatest: the answer -/
theorem huge_ends {A B mode : Int} {more neg : Bool} (hB : 0 < B) (h : (numW mostP + nxtN mostP) * B < 2 * A) (hm0 : 0 ≤ mode) (hm1 : mode ≤ 4) :
    (stK neg mode = false → RoundIs A B more neg mode 0 70) ∧ (stK neg mode = true → RoundIs A B more neg mode (mostP + sgB neg) 0) := by
  obtain ⟨t1, t2⟩ := round_huge (mode := mode) (neg := neg) (more := more) hB h
  unfold stK
  rcases mode_cases hm0 hm1 with rfl | rfl | rfl | rfl | rfl <;> cases neg <;> simp at t1 t2 ⊢ <;> assumption
theorem neg_of {d : Int} (h0 : 0 ≤ d) (h1 : d ≤ mostP) : negW d = d + sgB true ∧ U d := by
  unfold mostP at h1
  unfold negW sgB U
  rw [if_pos (by omega), if_pos rfl]
  omega
theorem next_of {d : Int} (h0 : 0 ≤ d) (h1 : d ≤ mostP) : (d < mostP → nxW d = d + 1 ∧ nxE d = 0) ∧ (d = mostP → nxE d = 62) := by
  obtain ⟨f1, f2, f3⟩ := fields_of h0 h1
  unfold mostP at *
  unfold nxW nxE
  refine ⟨fun h => ?_, fun h => ?_⟩
  · have e1 : ¬ ef d = 2047 := by omega
    have e2 : ¬ d = 9218868437227405311 := by omega
    have e3 : d < 9223372036854775808 := by omega
    simp only [if_neg e1, if_neg e2, if_pos e3, and_self]
  · have e1 : ¬ ef d = 2047 := by omega
    simp only [if_neg e1, if_pos h]
end Go.Proofs.YtceecgklgkiffabGreatDoor

/- package near: Scaled. -/
namespace Go.Proofs.YtceecgklgkiffabGreatDoor
open Go.ChangeShapes Go.WideShapes Go.ChangeAt Go.RowKit
open Na Ar
set_option linter.unusedVariables false
/-- the way of a mode, in its variable -/
def Wy (w : World) (g : Nat) (S : Bool) (f : Nat) : Prop := w.heap[g]? = some (.cells #[.bool S, .func (.func f) #[] #[]] 174)
theorem Wy.lt {w : World} {g f : Nat} {S : Bool} (h : Wy w g S f) : g < w.heap.size := by
  unfold Wy at h
  apply Decidable.byContradiction
  intro hc
  rw [Array.getElem?_eq_none (by omega)] at h
  cases h
theorem Wy.later {w w' : World} {g f : Nat} {S : Bool} (h : Wy w g S f) (hb : Below w.heap.size w w') : Wy w' g S f := by
  unfold Wy
  rw [hb.block g h.lt]; exact h
theorem Wy.cells {w : World} {g f : Nat} {S : Bool} (h : Wy w g S f) : w.cell? ⟨g, 0, none⟩ = some (.bool S) ∧ w.cell? ⟨g, 1, none⟩ = some (.func (.func f) #[] #[]) := by
  unfold Wy at h
  unfold World.cell?
  simp [h]
theorem wy_new (w : World) (S : Bool) (f : Nat) : Wy (w.alloc (.cells #[.bool S, .func (.func f) #[] #[]] 174)) w.heap.size S f := heap_alloc_new _ _
theorem fn_enters {neg : Bool} {mode : Int} (h0 : 0 ≤ mode) (h1 : mode ≤ 4) (args : Array Value) (w : World) : (callFunc (fnK neg mode) args).run Tryz.prog w = .ok (.enter (fnK neg mode) args) w := by
  rcases fnK_cases (neg := neg) h0 h1 with ⟨ef, _⟩ | ⟨ef, _⟩ | ⟨ef, _⟩ <;> rw [ef] <;> kernel_rfl
set_option maxHeartbeats 3200000 in
set_option maxRecDepth 100000 in
theorem scaled_go {w : World} {a : Option Addr} {n c : Nat} {xs : List Int} (hr : RowC w a n c xs) (hx : Ws xs) (hn : n ≤ 4000000) {x mode : Int} (x0 : -9223372036854775808 ≤ x) (x1 : x ≤ 9223372036854775807) {neg more : Bool} (h0 : 0 ≤ mode) (h1 : mode ≤ 4) (hG : GrVar w) :
    Calls Tryz.prog 117 #[.bool neg, .slice a n c, .int .i64 x, .bool more, .int .i64 mode] w fun e w' => ∃ b E, e = .returned (.tuple #[.int .u64 b, .int .i64 E]) ∧ RoundIs (scA (num xs) x) (scB 1 x) more neg mode b E ∧ U b ∧ Below w.heap.size w w' := by
  have l1 := hr.1.1
  have p1 := num_nonneg hx
  have hble := bits_le (N := num xs) (k := xs.length) p1 (num_bd hx)
  obtain ⟨m, X, k, e1, e2', e3, m0, m1, X0, X1, hf, hlo, hhi⟩ := cut_tells (x := x) (more := more) (neg := neg) p1 (by omega) h0 h1
  unfold CutEnds at hlo
  have hcut := fun w1 (h : Below w.heap.size w w1) => cut_any (hr.later h) hx hn x0 x1 more
  rw [e1, e3, e2'] at hcut
  have hk := known_yes h0 h1 w
  have hway := wayOf_any (neg := neg) h0 h1 hG
  have hmU : U m := by unfold U; omega
  have hJ := fun w => f6Join_any false X hmU w
  have hjc := join_cut m0 m1 X0 hf
  have hB : 0 < scB 1 x := scB_pos (by omega)
  have hhe := fun h => huge_ends (mode := mode) (neg := neg) (more := more) hB (hhi h) h0 h1
  have hst := fun (h : onK neg mode m k = true) => on_stay h
  have hgo : ∀ w, Calls Tryz.prog (fnK neg mode) #[.int .u64 m, .int .i64 k] w fun e w' => e = .returned (.bool (onK neg mode m k)) ∧ w = w' := fun w => by
    rcases fnK_cases (neg := neg) h0 h1 with ⟨ef, em, es⟩ | ⟨ef, es, eo⟩ | ⟨ef, es, eo⟩
    · rw [ef]
      have : onK neg mode m k = onK false 0 m k := by rw [em]; unfold onK; rfl
      rw [this]
      exact nearest_any hmU w
    · rw [ef, eo]; exact inward_any m k w
    · rw [ef, eo]; exact outward_any m k w
  have hcf := fun args w => fn_enters (neg := neg) h0 h1 args w
  generalize stK neg mode = S at *
  generalize fnK neg mode = f at *
  generalize onK neg mode m k = g at *
  generalize scA (num xs) x = A at *
  generalize scB 1 x = B at *
  clear hr hx e1 e2' e3 p1 hble l1 hG hhi
  go_enter Tryz.func117, Tryz.ntmps117
  go_wp2_with fail
  refine hk.mono ?_
  rintro e w1 ⟨rfl, rfl⟩
  clear hk
  go_wp2_with fail
  refine hway.mono ?_
  rintro e w2 ⟨rfl, hb2⟩
  clear hway
  have t2 := wy_new w2 S f
  have hal := alloc_below (w := w2) (.cells #[.bool S, .func (.func f) #[] #[]] 174)
  go_wp2_with fail
  have hB2 := hb2.trans (hal.mono hb2.size)
  have hc := hcut _ hB2
  refine hc.mono ?_
  rintro e w3 ⟨rfl, hb3⟩
  have t3 := t2.later hb3
  have hB3 := hB2.trans (hb3.mono hB2.size)
  clear hcut hc t2 hal hB2 hb3
  go_wp2_with fail
  refine (hJ w3).mono ?_
  rintro e w4 ⟨b, E, rfl, hg4, hji⟩
  have hb4 : Below w3.heap.size w3 w4 := hg4.2
  have t4 := t3.later hb4
  have hB4 := hB3.trans (hb4.mono hB3.size)
  clear hJ hg4 t3 hb4 hB3
  obtain ⟨k1, k2⟩ := t4.cells
  generalize w2.heap.size = gg at *
  by_cases hX : X ≤ 971
  · obtain ⟨rfl, rfl⟩ := joinIs_uniq hji (hjc.1 hX)
    obtain ⟨d0, d1, ce⟩ := hlo hX
    clear hji hjc hlo hhe hX hf
    generalize (X + 1074) * 4503599627370496 + m = d at *
    obtain ⟨ng, ud⟩ := neg_of d0 d1
    obtain ⟨nx1, nx2⟩ := next_of d0 d1
    have hN := fun w => f6Next_any ud w
    have hNeg := fun w => f6Neg_any ud w
    rw [ng] at hNeg
    have q0 : sgB false = 0 := rfl
    have HU : Hid (U (d + sgB true)) := by show U _; rw [← ng]; exact U_negW ud
    go_wp2_with fail
    refine (hgo w4).mono ?_
    rintro e w5 ⟨rfl, rfl⟩
    clear hgo hcf
    cases g
    · have HR : Hid (RoundIs A B more neg mode (d + sgB neg) 0) := ce.1 rfl
      clear ce hN nx1 nx2 hst ng
      cases neg
      · have HR' : Hid (RoundIs A B more false mode d 0) := by have := HR.out; rw [q0, Int.add_zero] at this; exact this
        clear hNeg HR
        go_wp2
        go_ret2
        exact ⟨_, _, rfl, HR'.out, ud, hB4⟩
      · clear q0
        generalize d + sgB true = d9 at *
        go_wp2_with fail
        refine (hNeg w4).mono ?_
        rintro e w6 ⟨rfl, rfl⟩
        clear hNeg
        go_wp2
        go_ret2
        exact ⟨_, _, rfl, HR.out, HU.out, hB4⟩
    · have hS := hst rfl
      subst hS
      by_cases hd : d < mostP
      · obtain ⟨z1, z2⟩ := nx1 hd
        rw [z1, z2] at hN
        have HR : Hid (RoundIs A B more neg mode (d + 1 + sgB neg) 0) := ce.2.1 rfl hd
        obtain ⟨ng', ud'⟩ := neg_of (d := d + 1) (by omega) (by omega)
        have hNeg' := fun w => f6Neg_any ud' w
        rw [ng'] at hNeg'
        have HU' : Hid (U (d + 1 + sgB true)) := by show U _; rw [← ng']; exact U_negW ud'
        clear ce hNeg nx1 nx2 hst ng z1 z2 ng' HU
        generalize d + 1 = dn at *
        go_wp2_with fail
        refine (hN w4).mono ?_
        rintro e w6 ⟨rfl, rfl⟩
        clear hN
        cases neg
        · have HR' : Hid (RoundIs A B more false mode dn 0) := by have := HR.out; rw [q0, Int.add_zero] at this; exact this
          clear hNeg' HR
          go_wp2
          go_ret2
          exact ⟨_, _, rfl, HR'.out, ud', hB4⟩
        · clear q0
          generalize dn + sgB true = d9 at *
          go_wp2_with fail
          refine (hNeg' w4).mono ?_
          rintro e w6 ⟨rfl, rfl⟩
          clear hNeg'
          go_wp2
          go_ret2
          exact ⟨_, _, rfl, HR.out, HU'.out, hB4⟩
      · have hd' : d = mostP := by omega
        have z2 := nx2 hd'
        have HR : Hid (RoundIs A B more neg mode 0 70) := ce.2.2 rfl hd'
        rw [z2] at hN
        generalize nxW d = dn at hN
        clear ce hNeg nx1 nx2 hst ng z2 HU hd hd' q0
        go_wp2_with fail
        refine (hN w4).mono ?_
        rintro e w6 ⟨rfl, rfl⟩
        clear hN
        go_wp2
        go_ret2
        exact ⟨_, _, rfl, HR.out, by unfold U; omega, hB4⟩
  · obtain ⟨rfl, rfl⟩ := joinIs_uniq hji (hjc.2 (by omega))
    obtain ⟨he1, he2⟩ := hhe (by omega)
    clear hji hjc hlo hhe hf hgo hst hcf
    cases S
    · have HR : Hid (RoundIs A B more neg mode 0 70) := he1 rfl
      clear he1 he2
      go_wp2
      go_ret2
      exact ⟨_, _, rfl, HR.out, by unfold U; omega, hB4⟩
    · have HR : Hid (RoundIs A B more neg mode (mostP + sgB neg) 0) := he2 rfl
      clear he1 he2
      have e0 : mostP = 9218868437227405311 := rfl
      rw [e0] at HR
      obtain ⟨ng, ud⟩ := neg_of (d := 9218868437227405311) (by omega) (by decide)
      have hNeg := fun w => f6Neg_any ud w
      rw [ng] at hNeg
      have HU : Hid (U (9218868437227405311 + sgB true)) := by show U _; rw [← ng]; exact U_negW ud
      clear ng e0
      cases neg
      · have HR' : Hid (RoundIs A B more false mode 9218868437227405311 0) := HR.out
        clear hNeg HR HU
        go_wp2
        go_ret2
        exact ⟨_, _, rfl, HR'.out, ud, hB4⟩
      · generalize 9218868437227405311 + sgB true = d9 at *
        go_wp2_with fail
        refine (hNeg w4).mono ?_
        rintro e w6 ⟨rfl, rfl⟩
        clear hNeg
        go_wp2
        go_ret2
        exact ⟨_, _, rfl, HR.out, HU.out, hB4⟩
end Go.Proofs.YtceecgklgkiffabGreatDoor

