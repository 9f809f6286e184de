/- plumbref07: Scaled. -/
import Derived.Test.YtbbmoaipilmmdabGreatDoorNearRefC
namespace Go.Proofs.YtbbmoaipilmmdabGreatDoor
open Go.ChangeShapes Go.WideShapes Go.ChangeAt Go.RowKit
open Na Ar
set_option linter.unusedVariables false
/-- the four ways of the document's Scaled -/
theorem sref_none {x mode v E : Int} {neg : Bool} (h : RoundIs (scA 0 0) (scB 1 0) false neg mode v E) : RoundIs (scA 0 x) (scB 1 x) false neg mode v E := by
  refine (round_cross (scB_pos (by omega)) (scB_pos (by omega)) ?_).mp h
  unfold scA; rw [Int.zero_mul, Int.zero_mul, Int.zero_mul, Int.zero_mul]
theorem one_tiny : 0 < scA 1 (-1300) ∧ 2 * scA 1 (-1300) < scB 1 (-1300) := cut_tiny (L := 1) (by omega) (by rw [e2_one]; omega) (by omega) (by omega)
theorem sref_tiny0 {x mode v E : Int} {neg : Bool} (m0 : 0 ≤ mode) (m1 : mode ≤ 4) (h : RoundIs (scA 1 (-1300)) (scB 1 (-1300)) false neg mode v E) : RoundIs (scA 0 x) (scB 1 x) true neg mode v E := by
  have hB : 0 < scB 1 x := scB_pos (by omega)
  have e : scA 0 x = 0 := by unfold scA; rw [Int.zero_mul]
  exact tiny_same (scB_pos (by omega)) hB (Or.inl one_tiny.1) (Or.inr ⟨e, rfl⟩) one_tiny.2 (by rw [e]; omega) m0 m1 h
theorem sref_tiny {M x mode v E : Int} {neg more : Bool} (hM : 0 < M) (hx : x < -1200 - bitsN M) (m0 : 0 ≤ mode) (m1 : mode ≤ 4) (h : RoundIs (scA 1 (-1300)) (scB 1 (-1300)) false neg mode v E) : RoundIs (scA M x) (scB 1 x) more neg mode v E := by
  obtain ⟨L1, L2, L3⟩ := bits_char hM
  obtain ⟨a1, a2⟩ := cut_tiny (x := x) hM L3 (by omega) (by omega)
  exact tiny_same (scB_pos (by omega)) (scB_pos (by omega)) (Or.inl one_tiny.1) (Or.inl a1) one_tiny.2 a2 m0 m1 h
theorem sref_huge {M x mode v E : Int} {neg more : Bool} (hM : 0 < M) (hx : 1100 - bitsN M < x) (m0 : 0 ≤ mode) (m1 : mode ≤ 4) (h : RoundIs (scA M (1100 - bitsN M)) (scB 1 (1100 - bitsN M)) more neg mode v E) : RoundIs (scA M x) (scB 1 x) more neg mode v E := by
  obtain ⟨L1, L2, L3⟩ := bits_char hM
  exact huge_same (scB_pos (by omega)) (scB_pos (by omega)) (cut_huge L2 L1 (by omega)) (cut_huge L2 L1 (by omega)) m0 m1 h
theorem r7Scaled_bad {w : World} {a : Option Addr} {n c : Nat} {x mode : Int} {neg more : Bool} (h : mode < 0 ∨ 4 < mode) :
    Calls Tryz.prog 38 #[.bool neg, .slice a n c, .int .i64 x, .bool more, .int .i64 mode] w fun e w' => e = .returned (.tuple #[.int .u64 0, .int .i64 71]) ∧ Below w.heap.size w w' := by
  rcases h with h | h
  · go_enter Tryz.func38, Tryz.ntmps38
    go_wp2
    go_ret2
    exact ⟨rfl, Below.refl _ _⟩
  · have h' : ¬ mode < 0 := by omega
    go_enter Tryz.func38, Tryz.ntmps38
    go_wp2
    go_ret2
    exact ⟨rfl, Below.refl _ _⟩
theorem lits7 (w : World) (N : Nat) (hN : w.heap.size = N) (x y : Int) : RowC ((w.alloc (.cells #[.int .u64 x] 22)).alloc (.cells #[.int .u64 y] 22)) (some ⟨N, 0, none⟩) 1 1 [x] ∧ RowC ((w.alloc (.cells #[.int .u64 x] 22)).alloc (.cells #[.int .u64 y] 22)) (some ⟨N + 1, 0, none⟩) 1 1 [y] := by
  have r1 := rowC_one w x 22
  have b1 := alloc_below (w := w) (.cells #[.int .u64 x] 22)
  have r2 := rowC_one (w.alloc (.cells #[.int .u64 x] 22)) y 22
  have b2 := alloc_below (w := w.alloc (.cells #[.int .u64 x] 22)) (.cells #[.int .u64 y] 22)
  have es : (w.alloc (.cells #[.int .u64 x] 22)).heap.size = N + 1 := by simp [hN]
  rw [es] at r2
  rw [hN] at r1
  exact ⟨r1.later b2, r2⟩
theorem ex7_one {w : World} {a b : Nat} (r1 : RowC w (some ⟨a, 0, none⟩) 1 1 [1]) (r2 : RowC w (some ⟨b, 0, none⟩) 1 1 [1]) : Ex7 w (some ⟨a, 0, none⟩) (some ⟨b, 0, none⟩) 1 1 1 1 (-1300) 1 1 [1] [1] :=
  ⟨r1, r2, Dg.one (by omega), Dg.one (by omega), by omega, by omega, by omega, by omega, by simp [num, val], by simp [num, val], by omega⟩
set_option maxHeartbeats 1600000 in
set_option maxRecDepth 100000 in
theorem r7Scaled_any {w : World} {a : Option Addr} {n c : Nat} {xs : List Int} (hr : RowC w a n c xs) (hx : Ws xs) (hn : n ≤ 1050000) {x mode : Int} (x0 : -9223372036854775808 ≤ x) (x1 : x ≤ 9223372036854775807) {neg more : Bool} (m0 : 0 ≤ mode) (m1 : mode ≤ 4) :
    Calls Tryz.prog 38 #[.bool neg, .slice a n c, .int .i64 x, .bool more, .int .i64 mode] w fun e w' => ∃ v E, e = .returned (.tuple #[.int .u64 v, .int .i64 E]) ∧ RoundIs (scA (num xs) x) (scB 1 x) more neg mode v E ∧ U v ∧ Below w.heap.size w w' := by
  obtain ⟨i_u64, hi_u64, hz0_u64, hz1_u64, hz2_u64⟩ := info_parts info_u64
  have hN := ref3Norm_any (cap := c) hr.1 hx (by omega)
  have l1 := hr.1.1
  have p1 := num_nonneg hx
  have hble := bits_le (N := num xs) (k := xs.length) p1 (num_bd hx)
  have hbn := bits_nonneg (num xs)
  have lx : Lt (num xs) n := ⟨num_nonneg hx, by have := num_bd hx; rw [l1] at this; exact this⟩
  have hL0 : bitsN (num xs) = 0 ↔ num xs = 0 := by
    constructor
    · intro h
      apply Decidable.byContradiction
      intro hc
      have := (bits_char (N := num xs) (by omega)).1
      omega
    · intro h; rw [h]; rfl
  have q1 : ¬ mode < 0 := by omega
  have q2 : ¬ 4 < mode := by omega
  rw [l1] at hble
  clear hr hx l1
  generalize num xs = M at *
  go_enter Tryz.func38, Tryz.ntmps38
  go_wp2_with fail
  refine hN.mono ?_
  rintro e w1 ⟨v, rfl, ho, hb1⟩
  obtain ⟨a2, n2, d2, l2, rfl, r2, nm2, E2⟩ := ho.opens lx (by omega)
  have hl2 := r2.1.1
  have hl2' := lx.len
  rw [← E2.out, hl2] at hl2'
  have hBt := ref3Bits_any (cap := d2) r2.1 nm2.ws (by omega)
  rw [nm2.num] at hBt
  clear hN ho
  go_wp2_with fail
  refine hBt.mono ?_
  rintro e w2 ⟨rfl, rfl⟩
  clear hBt
  have hex : Hid (∀ W X, Below (w1.alloc (.cells #[.int .u64 1] 22)).heap.size (w1.alloc (.cells #[.int .u64 1] 22)) W → -100000000 ≤ X → X ≤ 100000000 → Ex7 W a2 (some ⟨w1.heap.size, 0, none⟩) n2 1 d2 1 X M 1 l2 [1]) := fun W X h e0 e1 =>
    ⟨(r2.later (alloc_below _)).later h, (rowC_one w1 1 22).later h, nm2.ws, Dg.one (by omega), by omega, by omega, e0, e1, nm2.num, by simp [num, val], by omega⟩
  have HL0 : Hid (bitsN M = 0 ↔ M = 0) := hL0
  clear hL0 r2 nm2 E2 hl2 hl2' lx
  obtain ⟨L, hL⟩ : ∃ L, L = bitsN M := ⟨_, rfl⟩
  rw [← hL] at hble hbn ⊢
  have HL : Hid (L = bitsN M) := hL
  clear hL
  have HB2 : Hid (∀ o1 o2, Below w.heap.size w ((w1.alloc o1).alloc o2)) := fun o1 o2 => (hb1.alloc hb1.size o1).alloc (Nat.le_trans hb1.size (by simp)) o2
  have HB4 : Hid (∀ o1 o2 o3 o4, Below w.heap.size w ((((w1.alloc o1).alloc o2).alloc o3).alloc o4)) := fun o1 o2 o3 o4 => ((HB2.out o1 o2).alloc (Nat.le_trans hb1.size (by simp; omega)) o3).alloc (Nat.le_trans hb1.size (by simp; omega)) o4
  by_cases hM : M = 0
  · have tL : L = 0 := by rw [HL.out]; exact HL0.out.mpr hM
    have HM : Hid (M = 0) := hM
    subst tL
    clear hM
    cases more
    · go_wp2_with fail
      refine (round7_any (hex.out _ 0 (alloc_below _) (by omega) (by omega)) m0 m1).mono ?_
      rintro e w3 ⟨v, E, rfl, hr, hu, hb3⟩
      have HR := (by rw [HM.out] at hr ⊢; exact sref_none hr : RoundIs (scA M x) (scB 1 x) false neg mode v E)
      have hb := (HB2.out _ _).trans (hb3.mono ((HB2.out _ _).size))
      clear hr hb3 hex HL0 HL
      go_wp2
      go_ret2
      exact ⟨_, _, rfl, HR, hu, hb⟩
    · go_wp2_with fail
      refine (round7_any (ex7_one (lits7 _ (w1.heap.size + 1 + 1) (by simp) 1 1).1 (lits7 _ (w1.heap.size + 1 + 1) (by simp) 1 1).2) m0 m1).mono ?_
      rintro e w3 ⟨v, E, rfl, hr, hu, hb3⟩
      have HR := (by rw [HM.out]; exact sref_tiny0 m0 m1 hr : RoundIs (scA M x) (scB 1 x) true neg mode v E)
      have hb := (HB4.out _ _ _ _).trans (hb3.mono ((HB4.out _ _ _ _).size))
      clear hr hb3 hex HL0 HL
      go_wp2
      go_ret2
      exact ⟨_, _, rfl, HR, hu, hb⟩
  · have hMp : 0 < M := by omega
    have tL : (L == 0) = false := by
      have : L ≠ 0 := fun h => hM (HL0.out.mp (by rw [← HL.out]; exact h))
      simp [this]
    clear hM
    by_cases hbig : 1100 - L < x
    · go_wp2_with fail
      refine (round7_any (hex.out _ (1100 - L) (alloc_below _) (by omega) (by omega)) m0 m1).mono ?_
      rintro e w3 ⟨v, E, rfl, hr, hu, hb3⟩
      have HR := (by rw [HL.out] at hr hbig; exact sref_huge hMp hbig m0 m1 hr : RoundIs (scA M x) (scB 1 x) more neg mode v E)
      have hb := (HB2.out _ _).trans (hb3.mono ((HB2.out _ _).size))
      clear hr hb3 hex HL0 HL
      go_wp2
      go_ret2
      exact ⟨_, _, rfl, HR, hu, hb⟩
    · by_cases hsm : x < -1200 - L
      · go_wp2_with fail
        refine (round7_any (ex7_one (lits7 _ (w1.heap.size + 1 + 1) (by simp) 1 1).1 (lits7 _ (w1.heap.size + 1 + 1) (by simp) 1 1).2) m0 m1).mono ?_
        rintro e w3 ⟨v, E, rfl, hr, hu, hb3⟩
        have HR := (by rw [HL.out] at hsm; exact sref_tiny hMp hsm m0 m1 hr : RoundIs (scA M x) (scB 1 x) more neg mode v E)
        have hb := (HB4.out _ _ _ _).trans (hb3.mono ((HB4.out _ _ _ _).size))
        clear hr hb3 hex HL0 HL
        go_wp2
        go_ret2
        exact ⟨_, _, rfl, HR, hu, hb⟩
      · go_wp2_with fail
        refine (round7_any (hex.out _ x (alloc_below _) (by omega) (by omega)) m0 m1).mono ?_
        rintro e w3 ⟨v, E, rfl, hr, hu, hb3⟩
        have HR := hr
        have hb := (HB2.out _ _).trans (hb3.mono ((HB2.out _ _).size))
        clear hb3 hex HL0 HL
        go_wp2
        go_ret2
        exact ⟨_, _, rfl, HR, hu, hb⟩
end Go.Proofs.YtbbmoaipilmmdabGreatDoor
