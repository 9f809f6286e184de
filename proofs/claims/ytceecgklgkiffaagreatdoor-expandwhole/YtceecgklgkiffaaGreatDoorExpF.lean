/- Layer 13: sizeOf, top, Digits. -/
import Derived.Test.YtceecgklgkiffaaGreatDoorExpE
namespace Go.Proofs.YtceecgklgkiffaaGreatDoor
open Go.ChangeShapes Go.WideShapes Go.ChangeAt Go.RowKit
open Na Ar Ep
set_option linter.unusedVariables false
namespace Ep
/-- a pattern's size in units of two to the -1074 -/
def szA (b : Int) : Nat := (numW b).toNat
theorem e2_cast (x : Int) : e2 x = ((2 ^ x.toNat : Nat) : Int) := by unfold e2; rw [Int.natCast_pow]; rfl
/-- a pattern's number as a fraction -/
theorem size_parts {b : Int} (hu : U b) (hf : ef b ≠ 2047) : (szA b = 0 ∧ (valR b).num.natAbs = 0 ∧ ((valR b).den : Int) = 1) ∨ (0 < szA b ∧ ∃ p, p ≤ 1074 ∧ ((valR b).den : Int) = 2 ^ p ∧ 0 < (valR b).num.natAbs ∧ szA b = (valR b).num.natAbs * 2 ^ (dX - p)) := by
  obtain ⟨P, e1, e2', e3, e4, e5, e6, e7⟩ := num_parts hu hf
  by_cases h0 : spM b = 0
  · left
    have hn : numW b = 0 := by rw [e7, h0, Int.zero_mul]
    have hv : valR b = ((0 : Int) : Rat) := by rw [binQ_val, h0, binQ_zero]
    refine ⟨by unfold szA; rw [hn]; rfl, ?_, ?_⟩ <;> rw [hv] <;> rfl
  · right
    obtain ⟨k, o, h1, h2, h3, _, _⟩ := two_form (M := spM b) (by omega)
    have hv : valR b = binQ (spS b) o (spX b + k) := by rw [binQ_val, h1, binQ_move _ (by omega)]
    obtain ⟨q1, q2, _⟩ := binQ_odd h2 h3 (spS b) (spX b + k)
    rw [← hv] at q1 q2
    obtain ⟨O, rfl⟩ := Int.eq_ofNat_of_zero_le (Int.le_of_lt h3)
    have hO : 0 < O := by omega
    obtain ⟨y, hy⟩ : ∃ y, y = spX b + (k : Int) := ⟨_, rfl⟩
    rw [← hy] at q1 q2
    have hA : (valR b).num.natAbs = O * 2 ^ y.toNat := by
      rw [e2_cast, ← Int.natCast_mul] at q1
      exact_mod_cast q1
    have hnum : szA b = O * 2 ^ (k + P) := by
      unfold szA
      rw [e7, h1, Nat.pow_add, ← Nat.mul_assoc]
      have : ((O : Int) * 2 ^ k * 2 ^ P) = ((O * 2 ^ k * 2 ^ P : Nat) : Int) := by push_cast; rfl
      rw [this]
      rfl
    refine ⟨by rw [hnum]; exact Nat.mul_pos hO (Nat.pow_pos (by omega)), (-y).toNat, by omega, ?_, ?_, ?_⟩
    · rw [q2]
      rfl
    · rw [hA]; exact Nat.mul_pos hO (Nat.pow_pos (by omega))
    · have hX : dX = 1074 := rfl
      have hs : y.toNat + (dX - (-y).toNat) = k + P := by omega
      rw [hnum, hA, Nat.mul_assoc, ← Nat.pow_add, hs]
/-- all digits of A units; of 0: one digit 0 -/
def Dz (A N L : Nat) (e : Int) : Prop := (A = 0 ∧ N = 0 ∧ L = 1 ∧ e = 0) ∨ (0 < A ∧ Dec A N L e)
theorem dz_uniq {A N L N' L' : Nat} {e e' : Int} (h : Dz A N L e) (h' : Dz A N' L' e') : N = N' ∧ L = L' ∧ e = e' := by
  rcases h with ⟨a, b, c, d⟩ | ⟨a, b⟩ <;> rcases h' with ⟨a', b', c', d'⟩ | ⟨a', b'⟩
  · exact ⟨by omega, by omega, by omega⟩
  · omega
  · omega
  · exact dec_uniq b b'
end Ep
set_option maxHeartbeats 3200000 in
set_option maxRecDepth 100000 in
theorem sizeOf_fin {b : Int} (hu : U b) (hf : ef b ≠ 2047) (w : World) :
    Calls Tryz.prog 30 #[.int .u64 b] w fun e w' => ∃ (B c' N L : Nat) (x : Int), e = .returned (.tuple #[.agg #[.slice (some ⟨B, 0, none⟩) L c', .int .i64 x], .int .i64 0]) ∧ w.heap.size ≤ B ∧ Rb w' (some ⟨B, 0, none⟩) L c' (dg L N) ∧ Dz (szA b) N L x ∧ (1 ≤ L ∧ L ≤ 1300 ∧ -1100 ≤ x ∧ x ≤ 1300) ∧ Below w.heap.size w w' := by
  have hV := fun w => nearValue_fin hu hf w
  have hsz := value_size hu hf
  have hD : ∀ {w : World} {s : Bool} {a b9 : Option Addr} {n c m d : Nat}, Rt w s a n c b9 m d (valR b) → Calls Tryz.prog 70 #[.agg #[.bool s, .slice a n c, .slice b9 m d]] w fun e w' => ∃ (B c' N L : Nat) (x : Int), e = .returned (.agg #[.slice (some ⟨B, 0, none⟩) L c', .int .i64 x]) ∧ w.heap.size ≤ B ∧ Rb w' (some ⟨B, 0, none⟩) L c' (dg L N) ∧ Dz (szA b) N L x ∧ (1 ≤ L ∧ L ≤ 1300 ∧ -1100 ≤ x ∧ x ≤ 1300) ∧ Below w.heap.size w w' := by
    intro w s a b9 n c m d hR
    rcases size_parts hu hf with ⟨z1, z2, z3⟩ | ⟨z0, p, z1, z2, z3, z4⟩
    · refine (decimalOf_zero hR hsz z3 z2).mono ?_
      rintro e w' ⟨a', c', rfl, hB, hr, hb⟩
      exact ⟨a', c', 0, 1, 0, rfl, hB, hr, Or.inl ⟨z1, rfl, rfl, rfl⟩, by omega, hb⟩
    · refine (decimalOf_any hR hsz z2 (by omega) z3).mono ?_
      rintro e w' ⟨a', c', N, L, k, rfl, hB, hr, ⟨h1, h2, h3, h4, h5⟩, h6, h7, hb⟩
      exact ⟨a', c', N, L, _, rfl, hB, hr, Or.inr ⟨z0, dec_of (by have : dX = 1074 := rfl; omega) z4 h1 h2 h3 h4 h5⟩, by omega, hb⟩
  have sd := sd_new w (.slice none 0 0) (.int .i64 0) 62
  have hba := alloc_below (w := w) (.cells #[.slice none 0 0, .int .i64 0] 62)
  obtain ⟨g, hg⟩ : ∃ g, g = w.heap.size := ⟨_, rfl⟩
  have HG : Hid (w.heap.size = g) := hg.symm
  obtain ⟨w0, hw0⟩ : ∃ w0, w0 = w.alloc (.cells #[.slice none 0 0, .int .i64 0] 62) := ⟨_, rfl⟩
  rw [← hw0] at sd hba
  rw [← hg] at sd
  generalize valR b = V at *
  generalize szA b = A at *
  clear hsz hf
  go_enter Tryz.func30, Tryz.ntmps30
  go_wp2_with fail
  rw [← hw0, ← hg]
  refine (hV w0).mono ?_
  rintro e w1 ⟨s1, v1, v2, rfl, hR1, hb1⟩
  obtain ⟨a1, n1, c1, b1, m1, d1, rfl, rfl, hRt⟩ := hR1.opens
  have hB1 := hba.trans (hb1.mono hba.size)
  have sd1 := sd.later hb1
  clear hV hw0 hg hb1 hba sd hR1
  go_wp2_with fail
  have hb2 := alloc_below (w := w1) (.cells #[.bool s1, .slice a1 n1 c1, .slice b1 m1 d1] 50)
  have hB2 := hB1.trans (hb2.mono hB1.size)
  refine (hD (hRt.later hb2)).mono ?_
  rintro e w3 ⟨B3, c3, N, L, x, rfl, hBg, hR3, hDz, hbd, hb3⟩
  have hgB : g < B3 := by have := (sd1.later hb2).lt; omega
  have HBg : Hid (w.heap.size ≤ B3) := by show _ ≤ _; rw [HG.out]; omega
  have hB3 := hB2.trans (hb3.mono hB2.size)
  have sd3 := (sd1.later hb2).later hb3
  obtain ⟨p0, p1⟩ := sd3.cells
  obtain ⟨f0, f1⟩ := sd3.frozen
  have sd9 := (sd3.set (.slice (some ⟨B3, 0, none⟩) L c3) (.int .i64 x)).cells
  have hin := in2 w3 g (.slice (some ⟨B3, 0, none⟩) L c3) (.int .i64 x)
  have hRR : Rb ((w3.setCell ⟨g, 0, none⟩ (.slice (some ⟨B3, 0, none⟩) L c3)).setCell ⟨g, 1, none⟩ (.int .i64 x)) (some ⟨B3, 0, none⟩) L c3 (dg L N) := ⟨hR3.1.inn hin (fun _ => off_of (by omega)), hR3.2⟩
  have hBB : Below w.heap.size w ((w3.setCell ⟨g, 0, none⟩ (.slice (some ⟨B3, 0, none⟩) L c3)).setCell ⟨g, 1, none⟩ (.int .i64 x)) := below_inn hB3 hin (by rw [HG.out]; omega) (Nat.le_refl _)
  clear hD hRt hB1 sd1 hBg hgB hb2 hB2 hb3 hB3 sd3 hR3 hin
  go_wp2
  refine bodyPost_ret (v := .tuple #[.agg #[.slice (some ⟨B3, 0, none⟩) L c3, .int .i64 x], .int .i64 0]) (by simp [results, Tryz.results30, go_sem, sd9]) rfl ?_
  exact ⟨B3, c3, N, L, x, rfl, HBg.out, hRR, hDz, hbd, hBB⟩
set_option maxHeartbeats 1600000 in
set_option maxRecDepth 100000 in
theorem sizeOf_inf {b : Int} (hu : U b) (hf : ef b = 2047) (w : World) :
    Calls Tryz.prog 30 #[.int .u64 b] w fun e w' => e = .returned (.tuple #[.agg #[.slice none 0 0, .int .i64 0], .int .i64 60]) ∧ Below w.heap.size w w' := by
  have hV := fun w => nearValue_inf hu hf w
  have sd := sd_new w (.slice none 0 0) (.int .i64 0) 62
  have hba := alloc_below (w := w) (.cells #[.slice none 0 0, .int .i64 0] 62)
  obtain ⟨g, hg⟩ : ∃ g, g = w.heap.size := ⟨_, rfl⟩
  have HG : Hid (w.heap.size = g) := hg.symm
  obtain ⟨w0, hw0⟩ : ∃ w0, w0 = w.alloc (.cells #[.slice none 0 0, .int .i64 0] 62) := ⟨_, rfl⟩
  rw [← hw0] at sd hba
  rw [← hg] at sd
  clear hf
  go_enter Tryz.func30, Tryz.ntmps30
  go_wp2_with fail
  rw [← hw0, ← hg]
  refine (hV w0).mono ?_
  rintro e w1 ⟨rfl, hb1⟩
  have hB1 := hba.trans (hb1.mono hba.size)
  have sd1 := sd.later hb1
  obtain ⟨q0, q1⟩ := sd1.cells
  obtain ⟨k0, k1⟩ := sd1.frozen
  have hlt : g < w1.heap.size := sd1.lt
  have sd3 := sd1.set (.slice none 0 0) (.int .i64 0)
  have hin := in2 w1 g (.slice none 0 0) (.int .i64 0)
  have hB2 : Below w.heap.size w ((w1.setCell ⟨g, 0, none⟩ (.slice none 0 0)).setCell ⟨g, 1, none⟩ (.int .i64 0)) := below_inn hB1 hin (by rw [HG.out]; omega) (Nat.le_refl _)
  have hb3 := alloc_below (w := (w1.setCell ⟨g, 0, none⟩ (.slice none 0 0)).setCell ⟨g, 1, none⟩ (.int .i64 0)) (.cells #[.bool false, .slice none 0 0, .slice none 0 0] 50)
  have sd9 := (sd3.later hb3).cells
  have hBB := hB2.trans (hb3.mono hB2.size)
  clear hV hw0 hg hb1 hba sd sd1 hin sd3 hb3 hB2
  go_wp2
  refine bodyPost_ret (v := .tuple #[.agg #[.slice none 0 0, .int .i64 0], .int .i64 60]) (by simp [results, Tryz.results30, go_sem, sd9]) rfl ?_
  exact ⟨rfl, hBB⟩
set_option maxHeartbeats 1600000 in
set_option maxRecDepth 100000 in
theorem top13_any {a : Option Addr} {L c : Nat} {x : Int} (hL : L ≤ 4000) (h0 : -5000 ≤ x) (h1 : x ≤ 5000) (w : World) :
    Calls Tryz.prog 33 #[.agg #[.slice a L c, .int .i64 x]] w fun e w' => e = .returned (.int .i64 ((L : Int) + x)) ∧ Below w.heap.size w w' := by
  have hba := alloc_below (w := w) (.cells #[.slice a L c, .int .i64 x] 62)
  have z : (L : Int) ≤ 4000 := by omega
  go_enter Tryz.func33, Tryz.ntmps33
  go_wp2
  go_ret
  exact ⟨rfl, hba⟩
set_option maxHeartbeats 1600000 in
set_option maxRecDepth 100000 in
theorem digits_fin {b : Int} (hu : U b) (hf : ef b ≠ 2047) (w : World) :
    Calls Tryz.prog 22 #[.int .u64 b] w fun e w' => ∃ (N L : Nat) (x : Int), e = .returned (.tuple #[.string ⟨(dg L N).toArray⟩, .int .i64 x, .int .i64 0]) ∧ Dz (szA b) N L x ∧ (1 ≤ L ∧ L ≤ 1300 ∧ -1100 ≤ x ∧ x ≤ 1300) ∧ Below w.heap.size w w' := by
  have hS := fun w => sizeOf_fin hu hf w
  generalize szA b = A at *
  clear hf
  go_enter Tryz.func22, Tryz.ntmps22
  go_wp2_with fail
  refine (hS w).mono ?_
  rintro e w1 ⟨B, c, N, L, x, rfl, hBg, hR, hD, hbd, hb1⟩
  have hba := alloc_below (w := w1) (.cells #[.slice (some ⟨B, 0, none⟩) L c, .int .i64 x] 62)
  have sd := sd_new w1 (.slice (some ⟨B, 0, none⟩) L c) (.int .i64 x) 62
  have hR1 := hR.later hba
  have hB1 := hb1.trans (hba.mono hb1.size)
  have hcv := conv8 hR1
  have hcv1 : (convert 60 9 (.slice (some ⟨B, 0, none⟩) L c)).run Tryz.prog (w1.alloc (.cells #[.slice (some ⟨B, 0, none⟩) L c, .int .i64 x] 62)).drew = .ok (.string ⟨(dg L N).toArray⟩) (w1.alloc (.cells #[.slice (some ⟨B, 0, none⟩) L c, .int .i64 x] 62)).drew := conv8 (hR1.later ⟨rfl, rfl, rfl, Nat.le_refl _, fun _ _ => rfl⟩)
  have hB2 : Below w.heap.size w (w1.alloc (.cells #[.slice (some ⟨B, 0, none⟩) L c, .int .i64 x] 62)).drew := hB1.trans ⟨rfl, rfl, rfl, Nat.le_refl _, fun _ _ => rfl⟩
  obtain ⟨p0, p1⟩ := sd.cells
  obtain ⟨DL, hDL⟩ : ∃ DL, DL = dg L N := ⟨_, rfl⟩
  have HDL : Hid (dg L N = DL) := hDL.symm
  rw [← hDL] at hcv hcv1
  clear hDL
  clear hS hR hR1 hb1 hba sd
  go_wp2
  go_region
  all_goals
    go_wp2
    refine bodyPost_ret (v := .tuple #[.string ⟨DL.toArray⟩, .int .i64 x, .int .i64 0]) (by simp [results, Tryz.results22, go_sem]) rfl ?_
    exact ⟨N, L, x, by rw [HDL.out], hD, hbd, hB2⟩
end Go.Proofs.YtceecgklgkiffaaGreatDoor
