/- RyuReads: what is told is read back; none shorter, none nearer. -/
import Derived.Test.YtalglldkjbinbaaGreatDoorRyuT
import Derived.Test.YtalglldkjbinbaaGreatDoorNearH
namespace Go.Proofs.YtalglldkjbinbaaGreatDoor
open Go.ChangeShapes Go.WideShapes Go.ChangeAt Go.RowKit
open Na Ar Ry
set_option linter.unusedVariables false
namespace Ry
theorem twice_ord {N D x y E : Int} (hN : 0 ≤ N) (hD : 0 < D) (hx : 0 ≤ x) (hy : 0 ≤ y) (hE : 0 < E) : ordR (mkR false N D + mkR false N D) (mkR false x E + mkR false y E) = ordN (2 * (N * E)) ((x + y) * D) := by
  rw [add_mk hD hD, add_mk hE hE]
  have n0 : 0 ≤ N * D := Int.mul_nonneg hN (by omega)
  have x0 : 0 ≤ x * E := Int.mul_nonneg hx (by omega)
  have y0 : 0 ≤ y * E := Int.mul_nonneg hy (by omega)
  rw [ordR_mk (by omega) (Int.mul_pos hD hD) (by omega) (Int.mul_pos hE hE)]
  have s1 : ∀ z : Int, sg false z = z := fun z => rfl
  rw [s1, s1]
  have e1 : (N * D + N * D) * (E * E) = 2 * (N * E) * (D * E) := by grind
  have e2 : (x * E + y * E) * (D * D) = (x + y) * D * (D * E) := by grind
  rw [e1, e2, ordN_mul (Int.mul_pos hD hE)]
theorem ord_of {p q : Rat} : (p < q → ordR p q = -1) ∧ (p = q → ordR p q = 0) ∧ (ordR p q = -1 → p < q) ∧ (ordR p q = 0 → p = q) := by
  unfold ordR
  refine ⟨fun h => if_pos h, fun h => ?_, fun h => ?_, fun h => ?_⟩
  · rw [h, if_neg (Rat.lt_irrefl), if_pos rfl]
  · by_cases z : p < q
    · exact z
    · rw [if_neg z] at h; split at h <;> omega
  · by_cases z : p < q
    · rw [if_pos z] at h; omega
    · rw [if_neg z] at h
      split at h
      · assumption
      · omega
theorem exN_add (a b e : Int) : exN (a + b) e = exN a e + exN b e := by
  unfold exN; split
  · exact Int.add_mul _ _ _
  · rfl
theorem exN_lt {a b : Int} (h : a < b) (e : Int) : exN a e < exN b e := by
  unfold exN; split
  · exact Int.mul_lt_mul_of_pos_right h (Int.pow_pos (by omega))
  · exact h
theorem dec_less {a b : Int} (ha : 0 ≤ a) (h : a < b) (e : Int) : decR a e < decR b e := by
  refine ord_of.2.2.1 ?_
  unfold decR
  rw [ordR_mk (exN_nonneg ha e) (exD_pos e) (exN_nonneg (by omega) e) (exD_pos e)]
  show ordN (exN a e * exD e) (exN b e * exD e) = -1
  unfold ordN
  rw [if_pos (Int.mul_lt_mul_of_pos_right (exN_lt h e) (exD_pos e))]
/-- twice the pattern's number against the sum of two decimals -/
theorem sums_ord {p a b e : Int} (hp : 0 ≤ numW p) (ha : 0 ≤ a) (hb : 0 ≤ b) : ordR (mkR false (numW p) (e2 1074) + mkR false (numW p) (e2 1074)) (decR a e + decR b e) = ordN (2 * (numW p * exD e)) (exN (a + b) e * e2 1074) := by
  unfold decR
  rw [twice_ord hp (e2_pos _) (exN_nonneg ha e) (exN_nonneg hb e) (exD_pos e), ← exN_add]
theorem near_ord {p d e k : Int} (hp : 0 ≤ numW p) (S : ShP p d e) (hk0 : 0 ≤ k) (hne : k ≠ d) (hk : ExIs k e p 0) {V : Rat} (hV : V = mkR false (numW p) (e2 1074)) :
    ordR (absR (decR d e - V)) (absR (decR k e - V)) = -1 ∨ (ordR (absR (decR d e - V)) (absR (decR k e - V)) = 0 ∧ d % 2 = 0) := by
  have d0 := S.r0
  rcases Int.lt_or_gt_of_ne hne with l | l
  · have n := S.nb k hk0 l hk
    have o := sums_ord (e := e) hp hk0 (Int.le_of_lt d0)
    rw [← hV, Int.add_comm k d] at o
    have x := dec_less hk0 l e
    unfold ordN at o
    by_cases z : exN (d + k) e * e2 1074 = 2 * (numW p * exD e)
    · rw [if_neg (by omega), if_neg (by omega)] at o
      right
      exact ⟨ord_of.2.1 (dist_eq x (ord_of.2.2.2 o)).symm, n.2 z⟩
    · rw [if_neg (by omega), if_pos (by omega)] at o
      left
      refine ord_of.1 (dist_gt x ?_)
      have c : ¬ V + V < decR k e + decR d e := fun h => by have := ord_of.1 h; omega
      have c2 : ¬ V + V = decR k e + decR d e := fun h => by have := ord_of.2.1 h; omega
      exact Rat.lt_of_le_of_ne (Rat.not_lt.mp c) (fun h => c2 h.symm)
  · have n := S.na k l hk
    have o := sums_ord (e := e) hp (Int.le_of_lt d0) hk0
    rw [← hV] at o
    have x := dec_less (Int.le_of_lt d0) l e
    unfold ordN at o
    by_cases z : 2 * (numW p * exD e) = exN (d + k) e * e2 1074
    · rw [if_neg (by omega), if_neg (by omega)] at o
      right
      exact ⟨ord_of.2.1 (dist_eq x (ord_of.2.2.2 o)), n.2 z⟩
    · rw [if_pos (by omega)] at o
      left
      exact ord_of.1 (dist_lt x (ord_of.2.2.1 o))
end Ry
set_option maxHeartbeats 6400000 in
set_option maxRecDepth 100000 in
theorem reads_go {b p d e : Int} (hs : bits .andNot .u64 b 9223372036854775808 = p) (ub : U b) (hf : (ef b != 2047) = true) (hp0 : 0 < p) (hp1 : p ≤ mostP) (S : ShP p d e)
    (h1 : ∀ w, Calls Tryz.prog 10 #[.int .u64 b] w fun r w' => r = .returned (.tuple #[.int .u64 d, .int .i64 e, .int .i64 0]) ∧ Below w.heap.size w w') {w : World} (hG : GrVar w) :
    Calls Tryz.prog 4 #[.int .u64 b] w fun r w' => r = .returned (.bool true) ∧ Below w.heap.size w w' := by
  have hF := fun w => finite12_any ub w
  rw [hf] at hF
  obtain ⟨up, fp, mp⟩ := size_fin (Int.le_of_lt hp0) hp1
  have pz : (p == 0) = false := beq_no (by omega)
  have hV := fun w => nearValue_fin up fp w
  have zV := value_size up fp
  have eV := valR_low (Int.le_of_lt hp0) hp1
  have nn := num_nonneg' (Int.le_of_lt hp0) hp1
  have ho := fun k (h0 : 0 ≤ k) (h1 : k ≠ d) (h2 : ExIs k e p 0) => near_ord nn S h0 h1 h2 eV
  obtain ⟨s1, s2, s3, s4, s5, s6, s7, -, -⟩ := S
  have ud : U d := by unfold U; omega
  have hT := fun w => told12_any s1 s2 s3 s4 s5 w
  have hTk := fun (w1 : World) (h : Below w.heap.size w w1) => taken12_yes ud (by omega) (by omega) s6 (hG.later h)
  have hTn := fun (k : Int) (hk : U k) (w1 : World) (h : Below w.heap.size w w1) => taken12_no hk (show -370 ≤ e + 1 by omega) (by omega) (s7 k hk.1) (hG.later h)
  have hTa := fun (k : Int) (hk : U k) (w1 : World) (h : Below w.heap.size w w1) => taken12_any (b := p) hk (show -370 ≤ e by omega) (by omega) (hG.later h)
  generalize valR p = V at *
  have HO : Hid (∀ k, 0 ≤ k → k ≠ d → ExIs k e p 0 → ordR (absR (decR d e - V)) (absR (decR k e - V)) = -1 ∨ (ordR (absR (decR d e - V)) (absR (decR k e - V)) = 0 ∧ d % 2 = 0)) := ho
  clear ho s6 s7 hf eV nn
  go_enter Tryz.func4, Tryz.ntmps4
  go_wp2_with fail
  refine (fixed12_any _).mono ?_
  rintro r v1 ⟨rfl, b1⟩
  go_wp2_with fail
  refine (h1 _).mono ?_
  rintro r v2 ⟨rfl, b2⟩
  have B2 := b1.trans (b2.mono b1.size)
  clear b1 b2 h1
  go_wp2_with fail
  refine (hF _).mono ?_
  rintro r vz ⟨rfl, hz⟩
  rw [hz]
  clear hz hF
  go_wp2_with fail
  refine (hV _).mono ?_
  rintro r v3 ⟨sv, u1, u2, rfl, RV, b3⟩
  obtain ⟨av, nv, cv, bv, mv, dv, rfl, rfl, RVr⟩ := RV.opens
  have B3 := B2.trans (b3.mono B2.size)
  have tv := st_new v3 (.bool sv) (.slice av nv cv) (.slice bv mv dv) 26
  have RV4 := RVr.later (alloc_below (w := v3) (.cells #[.bool sv, .slice av nv cv, .slice bv mv dv] 26))
  have B4 : Below w.heap.size w (v3.alloc (.cells #[.bool sv, .slice av nv cv, .slice bv mv dv] 26)) := B3.alloc B3.size _
  clear B2 b3 hV RV RVr B3
  go_wp2_with fail
  refine (num12_same _ _).mono ?_
  rintro r vz ⟨rfl, hz⟩
  rw [hz]
  clear hz
  obtain ⟨v4, hv4⟩ : ∃ z, z = v3.alloc (.cells #[.bool sv, .slice av nv cv, .slice bv mv dv] 26) := ⟨_, rfl⟩
  obtain ⟨gv, hgv⟩ : ∃ z, z = v3.heap.size := ⟨_, rfl⟩
  rw [← hv4] at tv RV4 B4 ⊢
  rw [← hgv] at tv ⊢
  clear hv4 hgv
  go_wp2_with fail
  refine (num12_same _ _).mono ?_
  rintro r vz ⟨rfl, hz⟩
  rw [hz]
  clear hz
  go_wp2_with fail
  refine (hT _).mono ?_
  rintro r vz ⟨rfl, hz⟩
  rw [hz]
  clear hz hT
  have hTk' := hTk v4 B4
  go_wp2_with fail
  refine hTk'.mono ?_
  rintro r v5 ⟨rfl, b5⟩
  have tv5 := tv.later b5
  have RV5 := RV4.later b5
  have B5 := B4.trans (b5.mono B4.size)
  clear hTk hTk' tv RV4 B4 b5
  by_cases ten : 10 ≤ d
  · have q1 : decide (d ≥ 10) = true := by simp; omega
    have q1' : decide (10 ≤ d) = true := by simp; omega
    go_wp2
    go_loopw [9] (fun v wr => ∃ k : Int, v = .int .u64 k ∧ d / 10 ≤ k ∧ k ≤ d / 10 + 2 ∧ Hid (Below v5.heap.size v5 wr)) (fun v _ => (d / 10 + 2 - intOf v).toNat)
    case atStart => exact ⟨d / 10, rfl, by omega, by omega, Below.refl _ _⟩
    case round =>
      obtain ⟨k, rfl, k0, k1, hbw⟩ := hrel
      by_cases kl : k ≤ d / 10 + 1
      · have q2 : decide (k ≤ d / 10 + 1) = true := by simp; omega
        have hTn' := hTn k (by unfold U; omega) wr (B5.trans (hbw.out.mono B5.size))
        go_wp2_with fail
        refine hTn'.mono ?_
        rintro r w6 ⟨rfl, b6⟩
        have HB6 : Hid (Below v5.heap.size v5 w6) := hbw.out.trans (b6.mono hbw.out.size)
        clear hTn' b6 hbw
        go_wp2
        go_roundw
        case rel => exact ⟨k + 1, rfl, by omega, by omega, HB6⟩
        case measure => simp [intOf]; omega
      · have q2 : decide (k ≤ d / 10 + 1) = false := by simp; omega
        have tw := tv5.later hbw.out
        have RVw := RV5.later hbw.out
        have Bw := B5.trans (hbw.out.mono B5.size)
        clear tv5 RV5 B5 hbw
        have hA := apart12_any (e := e) ud (by omega) (by omega) RVw zV (by omega)
        obtain ⟨x0, x1, x2⟩ := tw.cells
        go_wp2_with fail
        refine hA.mono ?_
        rintro r w7 ⟨am, nm, cm, bm, mm, dm, rfl, RM, zM, b7⟩
        have tw7 := tw.later b7
        have RV7 := RVw.later b7
        have B7 := Bw.trans (b7.mono Bw.size)
        clear hA x0 x1 x2 tw RVw Bw b7
        clear hTn
        go_wp2_with fail
        have tm := st_new w7 (.bool false) (.slice am nm cm) (.slice bm mm dm) 26
        have ha7 := alloc_below (w := w7) (.cells #[.bool false, .slice am nm cm, .slice bm mm dm] 26)
        have RM8 := RM.later ha7
        have RV8 := RV7.later ha7
        have tv8 := tw7.later ha7
        have B8 : Below w.heap.size w (w7.alloc (.cells #[.bool false, .slice am nm cm, .slice bm mm dm] 26)) := B7.alloc B7.size _
        clear RM RV7 tw7 B7 ha7
        obtain ⟨w8, hw8⟩ : ∃ z, z = w7.alloc (.cells #[.bool false, .slice am nm cm, .slice bm mm dm] 26) := ⟨_, rfl⟩
        obtain ⟨gm, hgm⟩ : ∃ z, z = w7.heap.size := ⟨_, rfl⟩
        rw [← hw8] at tm RM8 RV8 tv8 B8 ⊢
        rw [← hgm] at tm ⊢
        clear hw8 hgm
        go_loopw [12] (fun v wr => ∃ k : Int, v = .int .u64 k ∧ (k = d - 1 ∨ k = d + 1 ∨ k = d + 3) ∧ Hid (Below w8.heap.size w8 wr)) (fun v _ => (d + 3 - intOf v).toNat)
        case atStart => exact ⟨d - 1, rfl, Or.inl rfl, Below.refl _ _⟩
        case round =>
          obtain ⟨k, rfl, hk, hbw⟩ := hrel
          have Bk8 := B8.trans (hbw.out.mono B8.size)
          by_cases kl : k ≤ d + 1
          · have q2 : decide (k ≤ d + 1) = true := by simp; omega
            have uk : U k := by unfold U; omega
            by_cases kz : k = 0
            · exact absurd kz (by omega)
            · have q3 : (k == 0) = false := beq_no kz
              have hT9 := hTa k uk _ Bk8
              go_wp2_with fail
              refine hT9.mono ?_
              rintro r w9 ⟨tk, rfl, hI, b9⟩
              have HB9 : Hid (Below w8.heap.size w8 w9) := hbw.out.trans (b9.mono hbw.out.size)
              clear hT9 b9
              cases tk
              · clear hI
                go_wp2
                go_roundw
                case rel => exact ⟨k + 2, rfl, by omega, HB9⟩
                case measure => simp [intOf]; omega
              · have hEx := hI.mp rfl
                have hO := HO.out k uk.1 (by omega) hEx
                have tv9 := tv8.later HB9.out
                have tm9 := tm.later HB9.out
                have RV9 := RV8.later HB9.out
                have RM9 := RM8.later HB9.out
                have hA := apart12_any (e := e) uk (by omega) (by omega) RV9 zV (by omega)
                clear hI hEx
                obtain ⟨x0, x1, x2⟩ := tv9.cells
                go_wp2_with fail
                refine hA.mono ?_
                rintro r wa ⟨ao, no, co, bo, mo, dd, rfl, RO, zO, ba⟩
                have tma := tm9.later ba
                have RMa := RM9.later ba
                have HBa := HB9.out.trans (ba.mono HB9.out.size)
                clear hA x0 x1 x2 tv9 tm9 RV9 RM9 HB9 ba
                have tt := st_new wa (.bool false) (.slice ao no co) (.slice bo mo dd) 26
                have haa := alloc_below (w := wa) (.cells #[.bool false, .slice ao no co, .slice bo mo dd] 26)
                have tmb := tma.later haa
                have RMb := RMa.later haa
                have ROb := RO.later haa
                have HBb := HBa.trans (haa.mono HBa.size)
                clear tma RMa RO HBa haa
                rcases hO with hO | ⟨hO, hev⟩
                · have hC := rCmp_ok RMb ROb zM zO (by omega) hO
                  obtain ⟨x0, x1, x2⟩ := tmb.cells
                  obtain ⟨y0, y1, y2⟩ := tt.cells
                  clear hO
                  go_wp2_with fail
                  refine hC.mono ?_
                  rintro r wc ⟨rfl, bc⟩
                  have HBc : Hid (Below w8.heap.size w8 wc) := HBb.trans (bc.mono HBb.size)
                  clear hC x0 x1 x2 y0 y1 y2 bc HBb
                  go_wp2_with fail
                  refine (num12_same _ _).mono ?_
                  rintro r vz ⟨rfl, hz⟩
                  rw [hz]
                  clear hz
                  go_wp2
                  go_roundw
                  case rel => exact ⟨k + 2, rfl, by omega, HBc⟩
                  case measure => simp [intOf]; omega
                · have hC := rCmp_ok RMb ROb zM zO (by omega) hO
                  obtain ⟨x0, x1, x2⟩ := tmb.cells
                  obtain ⟨y0, y1, y2⟩ := tt.cells
                  have q4 : (d % 2 == 1) = false := beq_no (by omega)
                  clear hO
                  go_wp2_with fail
                  refine hC.mono ?_
                  rintro r wc ⟨rfl, bc⟩
                  have HBc : Hid (Below w8.heap.size w8 wc) := HBb.trans (bc.mono HBb.size)
                  clear hC x0 x1 x2 y0 y1 y2 bc HBb
                  go_wp2_with fail
                  refine (num12_same _ _).mono ?_
                  rintro r vz ⟨rfl, hz⟩
                  rw [hz]
                  clear hz
                  go_wp2
                  go_roundw
                  case rel => exact ⟨k + 2, rfl, by omega, HBc⟩
                  case measure => simp [intOf]; omega
          · have q2 : decide (k ≤ d + 1) = false := by simp; omega
            go_wp2
            go_ret
            exact ⟨rfl, Bk8⟩
  · have q1 : decide (d ≥ 10) = false := by simp; omega
    have q1' : decide (10 ≤ d) = false := by simp; omega
    have tw := tv5
    have RVw := RV5
    have Bw := B5
    obtain ⟨wr, hwr⟩ : ∃ z, z = v5 := ⟨_, rfl⟩
    rw [← hwr] at tw RVw Bw ⊢
    clear tv5 RV5 B5 hwr
    have hA := apart12_any (e := e) ud (by omega) (by omega) RVw zV (by omega)
    obtain ⟨x0, x1, x2⟩ := tw.cells
    go_wp2_with fail
    refine hA.mono ?_
    rintro r w7 ⟨am, nm, cm, bm, mm, dm, rfl, RM, zM, b7⟩
    have tw7 := tw.later b7
    have RV7 := RVw.later b7
    have B7 := Bw.trans (b7.mono Bw.size)
    clear hA x0 x1 x2 tw RVw Bw b7
    clear hTn
    go_wp2_with fail
    have tm := st_new w7 (.bool false) (.slice am nm cm) (.slice bm mm dm) 26
    have ha7 := alloc_below (w := w7) (.cells #[.bool false, .slice am nm cm, .slice bm mm dm] 26)
    have RM8 := RM.later ha7
    have RV8 := RV7.later ha7
    have tv8 := tw7.later ha7
    have B8 : Below w.heap.size w (w7.alloc (.cells #[.bool false, .slice am nm cm, .slice bm mm dm] 26)) := B7.alloc B7.size _
    clear RM RV7 tw7 B7 ha7
    obtain ⟨w8, hw8⟩ : ∃ z, z = w7.alloc (.cells #[.bool false, .slice am nm cm, .slice bm mm dm] 26) := ⟨_, rfl⟩
    obtain ⟨gm, hgm⟩ : ∃ z, z = w7.heap.size := ⟨_, rfl⟩
    rw [← hw8] at tm RM8 RV8 tv8 B8 ⊢
    rw [← hgm] at tm ⊢
    clear hw8 hgm
    go_loopw [12] (fun v wr => ∃ k : Int, v = .int .u64 k ∧ (k = d - 1 ∨ k = d + 1 ∨ k = d + 3) ∧ Hid (Below w8.heap.size w8 wr)) (fun v _ => (d + 3 - intOf v).toNat)
    case atStart => exact ⟨d - 1, rfl, Or.inl rfl, Below.refl _ _⟩
    case round =>
      obtain ⟨k, rfl, hk, hbw⟩ := hrel
      have Bk8 := B8.trans (hbw.out.mono B8.size)
      by_cases kl : k ≤ d + 1
      · have q2 : decide (k ≤ d + 1) = true := by simp; omega
        have uk : U k := by unfold U; omega
        by_cases kz : k = 0
        · have q3 : (k == 0) = true := beq_of kz
          go_wp2
          go_roundw
          case rel => exact ⟨2, rfl, by omega, hbw⟩
          case measure => simp [intOf]; omega
        · have q3 : (k == 0) = false := beq_no kz
          have hT9 := hTa k uk _ Bk8
          go_wp2_with fail
          refine hT9.mono ?_
          rintro r w9 ⟨tk, rfl, hI, b9⟩
          have HB9 : Hid (Below w8.heap.size w8 w9) := hbw.out.trans (b9.mono hbw.out.size)
          clear hT9 b9
          cases tk
          · clear hI
            go_wp2
            go_roundw
            case rel => exact ⟨k + 2, rfl, by omega, HB9⟩
            case measure => simp [intOf]; omega
          · have hEx := hI.mp rfl
            have hO := HO.out k uk.1 (by omega) hEx
            have tv9 := tv8.later HB9.out
            have tm9 := tm.later HB9.out
            have RV9 := RV8.later HB9.out
            have RM9 := RM8.later HB9.out
            have hA := apart12_any (e := e) uk (by omega) (by omega) RV9 zV (by omega)
            clear hI hEx
            obtain ⟨x0, x1, x2⟩ := tv9.cells
            go_wp2_with fail
            refine hA.mono ?_
            rintro r wa ⟨ao, no, co, bo, mo, dd, rfl, RO, zO, ba⟩
            have tma := tm9.later ba
            have RMa := RM9.later ba
            have HBa := HB9.out.trans (ba.mono HB9.out.size)
            clear hA x0 x1 x2 tv9 tm9 RV9 RM9 HB9 ba
            have tt := st_new wa (.bool false) (.slice ao no co) (.slice bo mo dd) 26
            have haa := alloc_below (w := wa) (.cells #[.bool false, .slice ao no co, .slice bo mo dd] 26)
            have tmb := tma.later haa
            have RMb := RMa.later haa
            have ROb := RO.later haa
            have HBb := HBa.trans (haa.mono HBa.size)
            clear tma RMa RO HBa haa
            rcases hO with hO | ⟨hO, hev⟩
            · have hC := rCmp_ok RMb ROb zM zO (by omega) hO
              obtain ⟨x0, x1, x2⟩ := tmb.cells
              obtain ⟨y0, y1, y2⟩ := tt.cells
              clear hO
              go_wp2_with fail
              refine hC.mono ?_
              rintro r wc ⟨rfl, bc⟩
              have HBc : Hid (Below w8.heap.size w8 wc) := HBb.trans (bc.mono HBb.size)
              clear hC x0 x1 x2 y0 y1 y2 bc HBb
              go_wp2_with fail
              refine (num12_same _ _).mono ?_
              rintro r vz ⟨rfl, hz⟩
              rw [hz]
              clear hz
              go_wp2
              go_roundw
              case rel => exact ⟨k + 2, rfl, by omega, HBc⟩
              case measure => simp [intOf]; omega
            · have hC := rCmp_ok RMb ROb zM zO (by omega) hO
              obtain ⟨x0, x1, x2⟩ := tmb.cells
              obtain ⟨y0, y1, y2⟩ := tt.cells
              have q4 : (d % 2 == 1) = false := beq_no (by omega)
              clear hO
              go_wp2_with fail
              refine hC.mono ?_
              rintro r wc ⟨rfl, bc⟩
              have HBc : Hid (Below w8.heap.size w8 wc) := HBb.trans (bc.mono HBb.size)
              clear hC x0 x1 x2 y0 y1 y2 bc HBb
              go_wp2_with fail
              refine (num12_same _ _).mono ?_
              rintro r vz ⟨rfl, hz⟩
              rw [hz]
              clear hz
              go_wp2
              go_roundw
              case rel => exact ⟨k + 2, rfl, by omega, HBc⟩
              case measure => simp [intOf]; omega
      · have q2 : decide (k ≤ d + 1) = false := by simp; omega
        go_wp2
        go_ret
        exact ⟨rfl, Bk8⟩
theorem reads_walk12 {b : Int} (hu : U b) {w : World} (hG : GrVar w) : Calls Tryz.prog 4 #[.int .u64 b] w fun r w' => r = .returned (.bool true) ∧ Below w.heap.size w w' := by
  have hs := size_bits hu
  have hm := mg_bd b
  by_cases hf : ef b = 2047
  · have hF := fun w => finite12_any hu w
    rw [bne_of hf] at hF
    have h1 := fun w => rshort_inf hu hf w
    go_enter Tryz.func4, Tryz.ntmps4
    go_wp2_with fail
    refine (fixed12_any _).mono ?_
    rintro r v1 ⟨rfl, b1⟩
    go_wp2_with fail
    refine (h1 _).mono ?_
    rintro r v2 ⟨rfl, b2⟩
    have B2 := b1.trans (b2.mono b1.size)
    clear b1 b2 h1
    go_wp2_with fail
    refine (hF _).mono ?_
    rintro r vz ⟨rfl, hz⟩
    rw [hz]
    clear hz hF
    go_wp2_with fail
    refine (num12_same _ _).mono ?_
    rintro r vz ⟨rfl, hz⟩
    rw [hz]
    clear hz
    go_wp2
    go_ret
    exact ⟨rfl, B2⟩
  · have hf' : (ef b != 2047) = true := bne_yes hf
    by_cases h0 : mg b = 0
    · have hF := fun w => finite12_any hu w
      rw [hf'] at hF
      have h1 := fun w => rshort_zero hu hf h0 w
      rw [h0] at hs
      clear h0 hm hf hf'
      go_enter Tryz.func4, Tryz.ntmps4
      go_wp2_with fail
      refine (fixed12_any _).mono ?_
      rintro r v1 ⟨rfl, b1⟩
      go_wp2_with fail
      refine (h1 _).mono ?_
      rintro r v2 ⟨rfl, b2⟩
      have B2 := b1.trans (b2.mono b1.size)
      clear b1 b2 h1
      go_wp2_with fail
      refine (hF _).mono ?_
      rintro r vz ⟨rfl, hz⟩
      rw [hz]
      clear hz hF
      go_wp2_with fail
      refine (num12_same _ _).mono ?_
      rintro r vz ⟨rfl, hz⟩
      rw [hz]
      clear hz
      go_wp2
      go_ret
      exact ⟨rfl, B2⟩
    · have p1 : mg b ≤ mostP := by
        have := ef_bd b
        have := fr_bd b
        have := mg_parts b
        unfold mostP
        omega
      exact reads_go hs hu hf' (by omega) p1 (sh_is (by omega) p1) (fun w => rshort_fin hu hf h0 w) hG
end Go.Proofs.YtalglldkjbinbaaGreatDoor
