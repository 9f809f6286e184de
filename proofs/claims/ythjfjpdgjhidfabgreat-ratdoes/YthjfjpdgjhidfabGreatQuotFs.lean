/- package quot: foresee. -/
import Derived.Test.YthjfjpdgjhidfabGreatQuotDiff
namespace Go.Proofs.YthjfjpdgjhidfabGreat
open Go.ChangeShapes Go.WideShapes Go.ChangeAt Go.RowKit
open Na Ar
set_option linter.unusedVariables false

theorem shl_quiet {a b : Int} (ha : U a) (hb : U b) (n : Int) (w : World) :
    Calls Tryz.prog 102 #[.int .u64 a, .int .u64 b, .int .i64 n] w fun e w' => e = .returned (.tuple #[.int .u64 (shHi a b (clampN n)), .int .u64 (shLo a b (clampN n))]) ∧ ∃ m, w' = w.drewN m := by
  have hw := fun w => within_any n w
  have hk := clampN_le n
  generalize clampN n = k at *
  by_cases h : 64 ≤ k
  · go_enter Tryz.func102, Tryz.ntmps102
    go_wp2_with (go_at_call 109; refine (hw _).mono ?_; rintro e w' ⟨rfl, rfl⟩)
    go_ret2
    exact ⟨ret_two (shl_hi_big h) (shl_lo_big h), 0, rfl⟩
  · go_enter Tryz.func102, Tryz.ntmps102
    go_wp2_with (go_at_call 109; refine (hw _).mono ?_; rintro e w' ⟨rfl, rfl⟩)
    go_quiet (fail)
    go_wp2
    go_ret2
    exact ⟨ret_two (shl_hi hb (by omega)) (shl_lo k), _, rfl⟩
theorem wordAt_any {a : Option Addr} {n c1 : Nat} {xs : List Int} {w : World} (hr : RowAt .u64 w a n xs) (hn : n ≤ 4000000) (i : Nat) (hi : i ≤ 4000000) :
    Calls Tryz.prog 107 #[.slice a n c1, .int .i64 (i : Int)] w fun e w' => e = .returned (.int .u64 (xs.getD i 0)) ∧ w = w' := by
  by_cases h : i < n
  · obtain ⟨b, off, rfl, _, hc⟩ := hr.at (by omega)
    have hcx := hc i h
    generalize xs.getD i 0 = x at *
    have h2 : (i : Int) < (n : Int) := by omega
    clear hc hr
    go_enter Tryz.func107, Tryz.ntmps107
    go_wp2
    go_ret
    exact ⟨rfl, rfl⟩
  · have he : xs.getD i 0 = 0 := getD_out (by have := hr.1; omega)
    generalize xs.getD i 0 = x at he ⊢
    have HE : Hid (x = 0) := he
    clear he
    have h2 : ¬ (i : Int) < (n : Int) := by omega
    clear hr
    go_enter Tryz.func107, Tryz.ntmps107
    go_wp2
    go_ret
    exact ⟨ret_int HE.out.symm, rfl⟩
set_option maxHeartbeats 1600000 in
theorem gcdWords_any {a b : Int} (ha : U a) (hb : U b) (w : World) :
    Calls Tryz.prog 101 #[.int .u64 a, .int .u64 b] w fun e w' => e = .returned (.int .u64 (Int.gcd a b : Int)) ∧ Below w.heap.size w w' := by
  go_enter Tryz.func101, Tryz.ntmps101
  go_wp2
  go_loopw [0, 1] (fun x y wr => ∃ A B : Int, x = .int .u64 A ∧ y = .int .u64 B ∧ U A ∧ U B ∧ Hid (Int.gcd A B = Int.gcd a b) ∧ Below w.heap.size w wr) (fun _ y _ => (intOf y).toNat)
  case atStart => exact ⟨a, b, rfl, rfl, ha, hb, rfl, Below.refl _ _⟩
  case round =>
    obtain ⟨A, B, rfl, rfl, hA, hB, hg, hw⟩ := hrel
    by_cases h0 : B = 0
    · have HE : Hid (A = (Int.gcd a b : Int)) := by
        show _ = _
        rw [← hg.out, h0]
        unfold U at hA
        rw [Int.gcd_zero]; omega
      subst h0
      go_wp2
      go_ret
      exact ⟨by rw [← HE.out]; rfl, hw⟩
    · have t1 : (B != 0) = true := bne_yes h0
      have r0 := Int.emod_nonneg A h0
      have r1 := Int.emod_lt_of_pos A (show 0 < B by unfold U at hB; omega)
      have hU : U (A % B) := by unfold U at *; omega
      have HG : Hid (Int.gcd B (A % B) = Int.gcd a b) := (gcd_step A B).trans hg.out
      unfold U at hA hB
      go_wp2
      go_quiet (fail)
      go_wp2
      go_roundw
      case rel => exact ⟨B, A % B, rfl, rfl, hB, hU, HG, below_drewN hw _⟩
      case measure => simp [intOf]; omega

/-- a course in its block -/
def Cs (w : World) (g : Nat) (k ua ub va vb : Int) : Prop := w.heap[g]? = some (.cells #[.int .i64 k, .int .u64 ua, .int .u64 ub, .int .u64 va, .int .u64 vb] 97 (0, 0))
theorem Cs.lt {w : World} {g : Nat} {k ua ub va vb : Int} (h : Cs w g k ua ub va vb) : g < w.heap.size := by
  by_cases hlt : g < w.heap.size
  · exact hlt
  · unfold Cs at h; simp [Array.getElem?_eq_none (Nat.le_of_not_lt hlt)] at h
theorem Cs.later {w w' : World} {g : Nat} {k ua ub va vb : Int} (h : Cs w g k ua ub va vb) (hb : Below w.heap.size w w') : Cs w' g k ua ub va vb := by
  have := h.lt
  unfold Cs
  rw [hb.block g this]; exact h
theorem Cs.cells {w : World} {g : Nat} {k ua ub va vb : Int} (h : Cs w g k ua ub va vb) : w.cell? ⟨g, 0, none⟩ = some (.int .i64 k) ∧ w.cell? ⟨g, 1, none⟩ = some (.int .u64 ua) ∧ w.cell? ⟨g, 2, none⟩ = some (.int .u64 ub) ∧ w.cell? ⟨g, 3, none⟩ = some (.int .u64 va) ∧ w.cell? ⟨g, 4, none⟩ = some (.int .u64 vb) := by
  unfold Cs at h
  simp [World.cell?, h]
theorem Cs.frozen {w : World} {g : Nat} {k ua ub va vb : Int} (h : Cs w g k ua ub va vb) (i : Nat) : w.frozen? ⟨g, i, none⟩ = false := by
  unfold Cs at h
  simp [World.frozen?, h]
theorem set_block {w : World} {g i : Nat} {c : Array Value} {t : TypeId} {f : Nat × Nat} {v : Value} (h : w.heap[g]? = some (.cells c t f)) : (w.setCell ⟨g, i, none⟩ v).heap[g]? = some (.cells (c.setIfInBounds i v) t f) := by
  simp [World.setCell, Array.getElem?_modify, h]
theorem Cs.set {w : World} {g : Nat} {k ua ub va vb : Int} (h : Cs w g k ua ub va vb) (k' ua' ub' va' vb' : Int) :
    Cs (((((w.setCell ⟨g, 0, none⟩ (.int .i64 k')).setCell ⟨g, 1, none⟩ (.int .u64 ua')).setCell ⟨g, 2, none⟩ (.int .u64 ub')).setCell ⟨g, 3, none⟩ (.int .u64 va')).setCell ⟨g, 4, none⟩ (.int .u64 vb')) g k' ua' ub' va' vb' :=
  set_block (set_block (set_block (set_block (set_block h))))
theorem Cs.in5 {w : World} {g : Nat} (k' ua' ub' va' vb' : Int) :
    In g (g + 1) w (((((w.setCell ⟨g, 0, none⟩ (.int .i64 k')).setCell ⟨g, 1, none⟩ (.int .u64 ua')).setCell ⟨g, 2, none⟩ (.int .u64 ub')).setCell ⟨g, 3, none⟩ (.int .u64 va')).setCell ⟨g, 4, none⟩ (.int .u64 vb')) :=
  (((((In.refl g (g + 1) w).set1 0 _).set1 1 _).set1 2 _).set1 3 _).set1 4 _
theorem Cs.inn {w w' : World} {g g' : Nat} {k ua ub va vb : Int} (h : Cs w g k ua ub va vb) (hi : In g' (g' + 1) w w') (hne : g ≠ g') : Cs w' g k ua ub va vb := by
  have := h.lt
  unfold Cs
  rw [hi.block g this (by omega)]; exact h
namespace Na
theorem Fs.small {x0 y0 : Int} {K : Nat} {ua ub va vb x y : Int} (h : Fs x0 y0 K ua ub va vb x y) (hv : (K : Int) ≤ vb) (g1 : vb ≤ y) (g2 : vb + ub ≤ x - y) (hx : x0 < 18446744073709551616) : (K : Int) ≤ 4294967296 := by
  by_cases g : (K : Int) ≤ 4294967296
  · exact g
  · exfalso
    have nn := h.nn
    have e := h.e1
    have a : vb * vb ≤ vb * x := Int.mul_le_mul_of_nonneg_left (by omega) (by omega)
    have b : 0 ≤ ub * y := Int.mul_nonneg nn.2.1 h.y0
    have c : (4294967297 : Int) * 4294967297 ≤ vb * vb := Int.mul_le_mul (by omega) (by omega) (by omega) (by omega)
    omega
theorem Fs.more {x0 y0 : Int} {K : Nat} {ua ub va vb x y : Int} (h : Fs x0 y0 K ua ub va vb x y) (hy : y ≠ 0) (hv : (K : Int) ≤ vb) : ((K + 1 : Nat) : Int) ≤ ub + x / y * vb := by
  have nn := h.nn
  have y0 := h.y0
  have hxy : y ≤ x := by rcases h.st with s | s <;> omega
  have hq : 1 ≤ x / y := by rw [Int.le_ediv_iff_mul_le (by omega)]; omega
  have a : 1 * vb ≤ x / y * vb := Int.mul_le_mul_of_nonneg_right hq (by omega)
  rcases h.st with s | s
  · omega
  · omega
end Na
theorem cs_new (w : World) (k ua ub va vb : Int) : Cs (w.alloc (.cells #[.int .i64 k, .int .u64 ua, .int .u64 ub, .int .u64 va, .int .u64 vb] 97)) w.heap.size k ua ub va vb := heap_alloc_new _ _
set_option maxHeartbeats 3200000 in
set_option maxRecDepth 100000 in
theorem foresee_any {a b : Option Addr} {k m c1 c2 : Nat} {xs ys : List Int} {w : World} {s : Nat} (hr1 : RowAt .u64 w a (k + 2) xs) (hr2 : RowAt .u64 w b m ys) (hx : Ws xs) (hy : Ws ys) (hk : k ≤ 3800000) (hm : m ≤ 3800000)
    (hs : (64 : Int) - lenW (xs.getD (k + 1) 0) = (s : Int)) (hs63 : s ≤ 63) (hyx : shHi (ys.getD (k + 1) 0) (ys.getD k 0) s ≤ shHi (xs.getD (k + 1) 0) (xs.getD k 0) s) :
    Calls Tryz.prog 99 #[.slice a (k + 2) c1, .slice b m c2] w fun e w' => ∃ (K : Nat) (ua ub va vb : Int), e = .returned (.agg #[.int .i64 (K : Int), .int .u64 ua, .int .u64 ub, .int .u64 va, .int .u64 vb]) ∧ (K : Int) ≤ 4294967296 ∧ (K = 0 ∨ ∃ x y, Fs (shHi (xs.getD (k + 1) 0) (xs.getD k 0) s) (shHi (ys.getD (k + 1) 0) (ys.getD k 0) s) K ua ub va vb x y ∧ vb ≤ y ∧ vb + ub ≤ x - y) ∧ Below w.heap.size w w' := by
  obtain ⟨ba, oa, rfl, hba, hca⟩ := hr1.at (by omega)
  have ha1 := hca (k + 1) (by omega)
  have ha2 := hca k (by omega)
  have ga1 : U (xs.getD (k + 1) 0) := hx.getAnyB _
  have ga2 : U (xs.getD k 0) := hx.getAnyB _
  have gb1 : U (ys.getD (k + 1) 0) := hy.getAnyB _
  have gb2 : U (ys.getD k 0) := hy.getAnyB _
  have hlen := fun w => len_any ga1 w
  have hcl : clampN (s : Int) = s := clampN_of s (by omega)
  have hsh1 := fun w => shl_quiet ga1 ga2 (s : Int) w
  have hsh2 := fun w => shl_quiet gb1 gb2 (s : Int) w
  have hw1 := fun (w1 : World) (h : Below w.heap.size w w1) => wordAt_any (c1 := c2) (hr2.later h) (by omega) (k + 1) (by omega)
  have hw2 := fun (w1 : World) (h : Below w.heap.size w w1) => wordAt_any (c1 := c2) (hr2.later h) (by omega) k (by omega)
  rw [hcl] at hsh1 hsh2
  have e1 : ((k + 1 : Nat) : Int) = (k : Int) + 2 - 1 := by omega
  rw [e1] at hw1
  clear e1
  generalize xs.getD (k + 1) 0 = a1 at *
  generalize xs.getD k 0 = a2 at *
  generalize ys.getD (k + 1) 0 = b1 at *
  generalize ys.getD k 0 = b2 at *
  have hlb := lenW_bd ga1
  generalize lenW a1 = ln at *
  have hi1 : ((k : Int) + 2 - 1).toNat = k + 1 := by omega
  have hi2 : ((k : Int) + 2 - 2).toNat = k := by omega
  clear hcl hca hr1
  go_enter Tryz.func99, Tryz.ntmps99
  go_wp2_with fail
  refine (hlen _).mono ?_
  rintro e w' ⟨rfl, rfl⟩
  go_wp2_with fail
  go_quiet ((go_at_call 102; exact Calls.quiet_of (hsh1 _)))
  obtain ⟨w1, hw1e⟩ : ∃ w1, w1 = w.alloc (.cells #[.int .i64 0, .int .u64 0, .int .u64 0, .int .u64 0, .int .u64 0] 97) := ⟨_, rfl⟩
  have hal := alloc_below (w := w) (.cells #[.int .i64 0, .int .u64 0, .int .u64 0, .int .u64 0, .int .u64 0] 97)
  have hR1 := cs_new w 0 0 0 0 0
  rw [← hw1e] at hal hR1 ⊢
  obtain ⟨g4, hg4⟩ : ∃ g4, g4 = w.heap.size := ⟨_, rfl⟩
  rw [← hg4] at hR1 ⊢
  have hg4w : w.heap.size ≤ g4 := by omega
  have hg4l := hR1.lt
  clear hg4 hw1e
  have hal0 := hal
  have hb2 := below_drewN hal nq
  have hb21 : Below w1.heap.size w1 (w1.drewN nq) := below_drewN (Below.refl _ _) nq
  generalize World.drewN w1 nq = w2 at *
  go_wp2_with fail
  refine (hw1 w2 hb2).mono ?_
  rintro e w' ⟨rfl, rfl⟩
  go_wp2_with fail
  refine (hw2 w2 hb2).mono ?_
  rintro e w' ⟨rfl, rfl⟩
  go_wp2_with fail
  refine (hsh2 w2).mono ?_
  rintro e w3 ⟨rfl, nz, hw3⟩
  have hb3 : Below w1.heap.size w1 w3 := by rw [hw3]; exact below_drewN hb21 nz
  clear hw3 hsh1 hsh2 hw1 hw2 hlen
  have hc0 := cs_new w3 0 1 0 0 1
  have hal3 := alloc_below (w := w3) (.cells #[.int .i64 0, .int .u64 1, .int .u64 0, .int .u64 0, .int .u64 1] 97)
  have hb4 := hb3.trans (hal3.mono hb3.size)
  have hgc : w1.heap.size ≤ w3.heap.size := hb3.size
  go_wp2
  generalize hgce : w3.heap.size = gc at *
  generalize w3.alloc (.cells #[.int .i64 0, .int .u64 1, .int .u64 0, .int .u64 0, .int .u64 1] 97) = w4 at *
  clear hgce hal3 hb3
  obtain ⟨x0, hx0⟩ : ∃ x0, x0 = shHi a1 a2 s := ⟨_, rfl⟩
  obtain ⟨y0, hy0⟩ : ∃ y0, y0 = shHi b1 b2 s := ⟨_, rfl⟩
  rw [← hx0, ← hy0]
  have hUx : U x0 := by rw [hx0]; exact U_shHi _ _ _
  have hUy : U y0 := by rw [hy0]; exact U_shHi _ _ _
  rw [← hx0, ← hy0] at hyx
  have HX : Hid (shHi a1 a2 s = x0) := hx0.symm
  have HY : Hid (shHi b1 b2 s = y0) := hy0.symm
  clear hx0 hy0
  go_loopw [7, 9, 12, 13] (fun sx sy _ _ wr => ∃ (K : Nat) (ua ub va vb x y : Int), sx = .int .u64 x ∧ sy = .int .u64 y ∧ Fs x0 y0 K ua ub va vb x y ∧ (K = 0 ∨ (vb ≤ y ∧ vb + ub ≤ x - y)) ∧ (K : Int) ≤ vb ∧ Cs wr gc K ua ub va vb ∧ Below w1.heap.size w1 wr) (fun _ sy _ _ _ => (intOf sy).toNat)
  case atStart => exact ⟨0, 1, 0, 0, 1, x0, y0, rfl, rfl, fs_start hUy.1 hyx, Or.inl rfl, by omega, hc0, hb4⟩
  case round =>
    obtain ⟨K, ua, ub, va, vb, x, y, rfl, rfl, hF, hG, hKv, hC, hB⟩ := hrel
    clear hc0 hb4
    obtain ⟨d0, d1, d2, d3, d4⟩ := hC.cells
    have hR := hR1.later hB
    obtain ⟨r0, r1, r2, r3, r4⟩ := hR.cells
    have f0 := hR.frozen 0
    have f1 := hR.frozen 1
    have f2 := hR.frozen 2
    have f3 := hR.frozen 3
    have f4 := hR.frozen 4
    have hK : (K : Int) ≤ 4294967296 := by
      rcases hG with h | h
      · omega
      · exact hF.small hKv h.1 h.2 hUx.2
    have HK : Hid ((K : Int) ≤ 4294967296) := hK
    have HFG : Hid (K = 0 ∨ ∃ x y, Fs x0 y0 K ua ub va vb x y ∧ vb ≤ y ∧ vb + ub ≤ x - y) := by
      rcases hG with h | h
      · exact Or.inl h
      · exact Or.inr ⟨x, y, hF, h.1, h.2⟩
    have hcl := hC.lt
    have hrl := hR.lt
    by_cases hy0 : y = 0
    · subst hy0
      have hfin := hR.set (K : Int) ua ub va vb
      obtain ⟨z0, z1, z2, z3, z4⟩ := hfin.cells
      have hBf := below_inn (Below.trans hal0 (hB.mono hal0.size)) (Cs.in5 (g := g4) (K : Int) ua ub va vb) hg4w (Nat.le_refl _)
      clear hF hG hC hR1 hfin
      go_wp2
      refine bodyPost_ret (v := .agg #[.int .i64 (K : Int), .int .u64 ua, .int .u64 ub, .int .u64 va, .int .u64 vb]) (by simp [results, Tryz.results99, go_sem, z0, z1, z2, z3, z4]) rfl ⟨K, ua, ub, va, vb, rfl, HK.out, ?_, hBf⟩
      have h9 := HFG.out
      rw [HX.out, HY.out]
      exact h9
    · have t0 : (y != 0) = true := bne_yes hy0
      have hN := hF.step hy0
      have hKm := hF.more hy0 hKv
      have hyp : 1 ≤ y := by have := hF.y0; omega
      have hwd := hN.word hyp
      have hyx2 : y ≤ x := by rcases hF.st with h | h <;> omega
      have hbo := hF.both (show 1 ≤ x by omega) hyp
      have nn := hF.nn
      have hq0 : 0 ≤ x / y := Int.ediv_nonneg (by omega) (by omega)
      have m1 : 0 ≤ x / y * va := Int.mul_nonneg hq0 nn.2.2.1
      have m2 : 0 ≤ x / y * vb := Int.mul_nonneg hq0 (by omega)
      have r0' := Int.emod_nonneg x hy0
      have r1' := Int.emod_lt_of_pos x (show 0 < y by omega)
      unfold U at hUx hUy
      have hxU : x < 18446744073709551616 := by
        have e := hF.e1
        have a : 1 * x ≤ vb * x := Int.mul_le_mul_of_nonneg_right (by omega) (by omega)
        have b : 0 ≤ ub * y := Int.mul_nonneg nn.2.1 hF.y0
        omega
      have hyU : y < 18446744073709551616 := by omega
      have hva : va < 18446744073709551616 := by
        have e := hF.word (show 1 ≤ x by omega)
        omega
      have hub : ub < 18446744073709551616 := by omega
      have hvb : vb < 18446744073709551616 := by omega
      have hboth := fun h => hN.both hyp h
      obtain ⟨Qa, hQa⟩ : ∃ v, v = x / y * va := ⟨_, rfl⟩
      obtain ⟨Qb, hQb⟩ : ∃ v, v = x / y * vb := ⟨_, rfl⟩
      rw [← hQa] at hN hwd m1
      rw [← hQb] at hN hwd hKm m2 hboth
      obtain ⟨r, hr⟩ : ∃ r, r = x % y := ⟨_, rfl⟩
      obtain ⟨va', hva'⟩ : ∃ v, v = ua + Qa := ⟨_, rfl⟩
      obtain ⟨vb', hvb'⟩ : ∃ v, v = ub + Qb := ⟨_, rfl⟩
      have w1' : IntKind.u64.wrap (x / y * va) = Qa := by rw [← hQa, IntKind.wrap_u64]; omega
      have w2' : IntKind.u64.wrap (ua + Qa) = va' := by rw [IntKind.wrap_u64]; omega
      have w3' : IntKind.u64.wrap (x / y * vb) = Qb := by rw [← hQb, IntKind.wrap_u64]; omega
      have w4' : IntKind.u64.wrap (ub + Qb) = vb' := by rw [IntKind.wrap_u64]; omega
      rw [← hva'] at hN hwd
      rw [← hvb'] at hN hwd hKm hboth
      have hnn := hN.nn
      rw [← hr] at hN r0' r1' hboth
      have w5' : IntKind.u64.wrap (y - r) = y - r := by rw [IntKind.wrap_u64]; omega
      have c1' : IntKind.i64.wrap ((K : Int) + 1) = (K : Int) + 1 := by rw [IntKind.wrap_i64]; omega
      have HN : Hid (Fs x0 y0 (K + 1) va vb va' vb' y r) := hN
      have hre : x % y = r := hr.symm
      have hne : gc ≠ g4 := by omega
      have HKM : Hid (((K + 1 : Nat) : Int) ≤ vb') := hKm
      clear hF hN hG nn hal d0 d1 d2 d3 d4 r0 r1 r2 r3 r4 f0 f1 f2 f3 f4 hr hQa hQb hva' hvb' hcl hrl hKm m1 m2
      go_wp2
      go_quiet (fail)
      have hbq := below_drewN (Below.refl wr.heap.size wr) nq
      generalize World.drewN wr nq = wq at *
      have hCq := hC.later hbq
      have hRq := hR.later hbq
      have hBq := hB.trans (hbq.mono hB.size)
      obtain ⟨d0, d1, d2, d3, d4⟩ := hCq.cells
      obtain ⟨r0, r1, r2, r3, r4⟩ := hRq.cells
      have f0 := hRq.frozen 0
      have f1 := hRq.frozen 1
      have f2 := hRq.frozen 2
      have f3 := hRq.frozen 3
      have f4 := hRq.frozen 4
      have g0 := hCq.frozen 0
      have g1 := hCq.frozen 1
      have g2 := hCq.frozen 2
      have g3 := hCq.frozen 3
      have g4' := hCq.frozen 4
      have hcl := hCq.lt
      have hrl := hRq.lt
      clear hC hR hB hbq
      by_cases hb1 : r < vb'
      · have b1 : decide (r < vb') = true := decide_eq_true hb1
        have hfin0 := hRq.set (K : Int) ua ub va vb
        have hin0 := Cs.in5 (w := wq) (g := g4) (K : Int) ua ub va vb
        have hB0 := below_inn (Below.trans hal0 (hBq.mono hal0.size)) hin0 hg4w (Nat.le_refl _)
        have halx := alloc_below (w := ((((wq.setCell ⟨g4, 0, none⟩ (.int .i64 (K : Int))).setCell ⟨g4, 1, none⟩ (.int .u64 ua)).setCell ⟨g4, 2, none⟩ (.int .u64 ub)).setCell ⟨g4, 3, none⟩ (.int .u64 va)).setCell ⟨g4, 4, none⟩ (.int .u64 vb)) (.cells #[.int .i64 ((K : Int) + 1), .int .u64 va, .int .u64 vb, .int .u64 va', .int .u64 vb'] 97)
        have hfin := hfin0.later halx
        obtain ⟨z0, z1, z2, z3, z4⟩ := hfin.cells
        have hBf := hB0.trans (halx.mono hB0.size)
        clear hfin hfin0 hin0 hB0 halx hRq hBq hCq
        go_wp2
        refine bodyPost_ret (v := .agg #[.int .i64 (K : Int), .int .u64 ua, .int .u64 ub, .int .u64 va, .int .u64 vb]) (by simp [results, Tryz.results99, go_sem, z0, z1, z2, z3, z4]) rfl ⟨K, ua, ub, va, vb, rfl, HK.out, ?_, hBf⟩
        have h9 := HFG.out
        rw [HX.out, HY.out]
        exact h9
      · have b1 : decide (r < vb') = false := decide_eq_false hb1
        have hsum := hboth (by omega)
        have w6' : IntKind.u64.wrap (vb' + vb) = vb' + vb := by rw [IntKind.wrap_u64]; omega
        by_cases hb2 : y - r < vb' + vb
        · have b2 : decide (y - r < vb' + vb) = true := decide_eq_true hb2
          have hfin0 := hRq.set (K : Int) ua ub va vb
          have hin0 := Cs.in5 (w := wq) (g := g4) (K : Int) ua ub va vb
          have hB0 := below_inn (Below.trans hal0 (hBq.mono hal0.size)) hin0 hg4w (Nat.le_refl _)
          have halx := alloc_below (w := ((((wq.setCell ⟨g4, 0, none⟩ (.int .i64 (K : Int))).setCell ⟨g4, 1, none⟩ (.int .u64 ua)).setCell ⟨g4, 2, none⟩ (.int .u64 ub)).setCell ⟨g4, 3, none⟩ (.int .u64 va)).setCell ⟨g4, 4, none⟩ (.int .u64 vb)) (.cells #[.int .i64 ((K : Int) + 1), .int .u64 va, .int .u64 vb, .int .u64 va', .int .u64 vb'] 97)
          have hfin := hfin0.later halx
          obtain ⟨z0, z1, z2, z3, z4⟩ := hfin.cells
          have hBf := hB0.trans (halx.mono hB0.size)
          clear hfin hfin0 hin0 hB0 halx hRq hBq hCq
          go_wp2
          refine bodyPost_ret (v := .agg #[.int .i64 (K : Int), .int .u64 ua, .int .u64 ub, .int .u64 va, .int .u64 vb]) (by simp [results, Tryz.results99, go_sem, z0, z1, z2, z3, z4]) rfl ⟨K, ua, ub, va, vb, rfl, HK.out, ?_, hBf⟩
          have h9 := HFG.out
          rw [HX.out, HY.out]
          exact h9
        · have b2 : decide (y - r < vb' + vb) = false := decide_eq_false hb2
          have hset0 := hCq.set ((K : Int) + 1) va vb va' vb'
          have hin0 := Cs.in5 (w := wq) (g := gc) ((K : Int) + 1) va vb va' vb'
          have hB0 := below_inn hBq hin0 (by omega) (Nat.le_refl _)
          have halx := alloc_below (w := ((((wq.setCell ⟨gc, 0, none⟩ (.int .i64 ((K : Int) + 1))).setCell ⟨gc, 1, none⟩ (.int .u64 va)).setCell ⟨gc, 2, none⟩ (.int .u64 vb)).setCell ⟨gc, 3, none⟩ (.int .u64 va')).setCell ⟨gc, 4, none⟩ (.int .u64 vb')) (.cells #[.int .i64 ((K : Int) + 1), .int .u64 va, .int .u64 vb, .int .u64 va', .int .u64 vb'] 97)
          have hset := hset0.later halx
          have hBn := hB0.trans (halx.mono hB0.size)
          clear hset0 hin0 hB0 halx hRq hBq hCq
          go_wp2
          go_roundw
          case rel => exact ⟨K + 1, va, vb, va', vb', y, r, rfl, congrArg (Value.int .u64) hre, HN.out, Or.inr ⟨by omega, by omega⟩, HKM.out, hset, hBn⟩
          case measure => simp [intOf]; omega
end Go.Proofs.YthjfjpdgjhidfabGreat
