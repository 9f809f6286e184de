/- package near: Mid. -/
import Derived.Test.YtceecgklgkiffaaGreatDoorNearH
namespace Go.Proofs.YtceecgklgkiffaaGreatDoor
open Go.ChangeShapes Go.WideShapes Go.ChangeAt Go.RowKit
open Na Ar
set_option linter.unusedVariables false
namespace Na
/-- the one of the two that is nearer to 0; the middle -/
def innB (b : Int) : Int := if 9223372036854775808 < b then b - 1 else b
def midR (b : Int) : Rat := binQ (decide (9223372036854775808 < b)) (2 * spM (innB b) + 1) (spX (innB b) - 1)
theorem inn_fin {b : Int} (h : U b) (hf : ef b ≠ 2047) : U (innB b) ∧ ef (innB b) ≠ 2047 := by
  unfold U at *
  unfold innB
  unfold ef at *
  split <;> omega
theorem mid_cmp {b : Int} (h : U b) (hf : ef b ≠ 2047) : (decide (cmW b 0 < 0) = decide (9223372036854775808 < b)) ∧ cmE b 0 = 0 ∧ (-1 ≤ cmW b 0 ∧ cmW b 0 ≤ 1) := by
  have e0 : ef 0 ≠ 2047 := by decide
  unfold cmW cmE
  rw [if_neg hf, if_neg e0, if_neg hf, if_neg e0]
  unfold U at h
  have r0 : rk0 0 = 0 := rfl
  rw [r0]
  refine ⟨?_, rfl, ?_⟩
  · rw [Bool.eq_iff_iff]
    simp only [decide_eq_true_eq]
    unfold ord rk0
    split <;> split <;> (try split) <;> omega
  · unfold ord
    split <;> (try split) <;> omega
theorem nxt_ok {b : Int} (hf : ef b ≠ 2047) (hm : b ≠ mostP) : nxE b = 0 := by
  unfold nxE
  unfold mostP at hm
  rw [if_neg hf, if_neg hm]
theorem nxt_inn {b : Int} (hf : ef b ≠ 2047) (hb : 9223372036854775808 < b) : nxW b = innB b := by
  unfold nxW innB
  rw [if_neg hf, if_neg (by omega), if_neg (by omega), if_neg (by omega), if_pos hb]
end Na
set_option maxHeartbeats 3200000 in
set_option maxRecDepth 100000 in
theorem nearMid_fin {b : Int} (hu : U b) (hf : ef b ≠ 2047) (hm : b ≠ mostP) (w : World) :
    Calls Tryz.prog 134 #[.int .u64 b] w fun e w' => ∃ s v1 v2, e = .returned (.tuple #[.agg #[.bool s, v1, v2], .int .i64 0]) ∧ RtO w' w.heap.size s v1 v2 (midR b) ∧ Below w.heap.size w w' := by
  obtain ⟨ui, fi⟩ := inn_fin hu hf
  obtain ⟨p, e1, e2', e3, e4, e5, e6, e7⟩ := num_parts ui fi
  have hE : fiE (innB b) = 0 := by unfold fiE; rw [if_neg fi]
  have hSp := fun w => f6Split_any ui w
  rw [hE] at hSp
  have hN := fun w => f6Next_any hu w
  rw [nxt_ok hf hm] at hN
  obtain ⟨k1, k2, k3⟩ := mid_cmp hu hf
  have hCm := fun w => f6Cmp_any hu (show U 0 by unfold U; omega) w
  rw [k2] at hCm
  have hBn := fun w => binary_any (neg := decide (9223372036854775808 < b)) (m := 2 * spM (innB b) + 1) (x := spX (innB b) - 1) ⟨by omega, by omega⟩ (by omega) (by omega) w
  have HQ : Hid (binQ (decide (9223372036854775808 < b)) (2 * spM (innB b) + 1) (spX (innB b) - 1) = midR b) := rfl
  rw [HQ.out] at hBn
  have t0 := st_new w (.bool false) (.slice none 0 0) (.slice none 0 0) 50
  have HB0 := alloc_below (w := w) (.cells #[.bool false, .slice none 0 0, .slice none 0 0] 50)
  have e0 : w.heap.size + 1 ≤ (w.alloc (.cells #[.bool false, .slice none 0 0, .slice none 0 0] 50)).heap.size := by simp
  obtain ⟨g, hg⟩ : ∃ g, g = w.heap.size := ⟨_, rfl⟩
  have HG : Hid (w.heap.size = g) := hg.symm
  rw [← hg] at t0 e0
  obtain ⟨Q, hQ⟩ : ∃ Q, Q = decide (9223372036854775808 < b) := ⟨_, rfl⟩
  have hx : (Q = true ∧ nxW b = innB b) ∨ (Q = false ∧ innB b = b) := by
    by_cases q : 9223372036854775808 < b
    · exact Or.inl ⟨by rw [hQ]; simpa using q, nxt_inn hf q⟩
    · exact Or.inr ⟨by rw [hQ]; simpa using q, by unfold innB; rw [if_neg q]⟩
  rw [← hQ] at k1 hBn
  clear hQ
  have sm0 : 0 ≤ spM (innB b) ∧ spM (innB b) ≤ 9007199254740992 := by omega
  have sx0 : -1074 ≤ spX (innB b) ∧ spX (innB b) ≤ 971 := by omega
  generalize midR b = V at *
  generalize spM (innB b) = sM at *
  generalize spX (innB b) = sX at *
  generalize spS (innB b) = sS at *
  generalize cmW b 0 = C at *
  generalize nxW b = nb at *
  generalize innB b = ib at *
  clear hE e1 e2' e3 e4 e5 e6 e7 hf HQ fi k2 hm
  rcases hx with ⟨rfl, rfl⟩ | ⟨rfl, rfl⟩
  all_goals
    go_enter Tryz.func134, Tryz.ntmps134
    go_wp2_with fail
    rw [← hg]
    generalize w.alloc (.cells #[.bool false, .slice none 0 0, .slice none 0 0] 50) = w0 at *
    clear hg
    refine (hN _).mono ?_
    rintro e w1 ⟨rfl, rfl⟩
    go_wp2_with fail
    refine (hCm _).mono ?_
    rintro e w1 ⟨rfl, rfl⟩
    go_wp2_with fail
    refine (hSp _).mono ?_
    rintro e w1 ⟨rfl, rfl⟩
    go_wp2_with fail
    refine (hBn _).mono ?_
    rintro e w1 ⟨s9, v1, v2, rfl, hR, hb1⟩
    obtain ⟨a9, n9, c9, b9, m9, d9, rfl, rfl, _⟩ := hR.opens
    have t1 := t0.later hb1
    have HB1 := HB0.trans (hb1.mono HB0.size)
    obtain ⟨x0, x1, x2⟩ := t1.cells
    obtain ⟨z0, z1, z2⟩ := t1.frozen
    clear hSp hBn t0 HB0 hN hCm
    go_wp2
    have i9 := in3 w1 g (.bool s9) (.slice a9 n9 c9) (.slice b9 m9 d9)
    have T9 := t1.set (.bool s9) (.slice a9 n9 c9) (.slice b9 m9 d9)
    have R9 := ((hR.lower (base' := g + 1) (by omega)).inn i9 (by omega)).lower (base' := w.heap.size) (by rw [HG.out]; omega)
    have B9 := below_in HB1 i9 (by rw [HG.out]; omega) (Nat.le_refl _)
    obtain ⟨j0, j1, j2⟩ := T9.cells
    refine bodyPost_ret (v := .tuple #[.agg #[.bool s9, .slice a9 n9 c9, .slice b9 m9 d9], .int .i64 0]) (by simp [results, Tryz.results134, go_sem, j0, j1, j2]) rfl ?_
    exact ⟨_, _, _, rfl, R9, B9⟩
set_option maxHeartbeats 3200000 in
set_option maxRecDepth 100000 in
theorem nearMid_most (w : World) :
    Calls Tryz.prog 134 #[.int .u64 9218868437227405311] w fun e w' => e = .returned (.tuple #[.agg #[.bool false, .slice none 0 0, .slice none 0 0], .int .i64 62]) ∧ Below w.heap.size w w' := by
  have hE : nxE 9218868437227405311 = 62 := by decide
  have hN := fun w => f6Next_any (b := 9218868437227405311) (by unfold U; omega) w
  rw [hE] at hN
  have HB0 := alloc_below (w := w) (.cells #[.bool false, .slice none 0 0, .slice none 0 0] 50)
  generalize nxW 9218868437227405311 = X at *
  clear hE
  go_enter Tryz.func134, Tryz.ntmps134
  go_wp2_with fail
  refine (hN _).mono ?_
  rintro e w1 ⟨rfl, rfl⟩
  go_wp2
  refine bodyPost_ret (v := .tuple #[.agg #[.bool false, .slice none 0 0, .slice none 0 0], .int .i64 62]) (by simp [results, Tryz.results134, go_sem]) rfl ?_
  exact ⟨rfl, HB0⟩
end Go.Proofs.YtceecgklgkiffaaGreatDoor
