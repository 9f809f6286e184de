/- NearSticky. -/
import Derived.Test.YtildkknpbpdnnaaDoorNearF
namespace Go.Proofs.YtildkknpbpdnnaaDoor
open Go.ChangeShapes Go.WideShapes Go.ChangeAt Go.RowKit
open Na Ar
set_option linter.unusedVariables false
/-- a little more is one part of two to the 2400 -/
theorem sticky_is {M x mode b e : Int} {neg : Bool} {t : Nat} (hx0 : -1200 ≤ x) (hx1 : x ≤ 1200) (ht : 2400 - x = (t : Int)) :
    RoundIs (scA M x) (scB 1 x) true neg mode b e ↔ RoundIs (scA (M * 2 ^ 2400 + 1) 0) (scB (1 * 2 ^ t) 0) false neg mode b e := by
  have hK : ∃ j : Nat, 126 ≤ j ∧ (j : Int) = 2400 - max (x + 1074) 0 := ⟨(2400 - max (x + 1074) 0).toNat, by omega, by omega⟩
  obtain ⟨j, hj, hje⟩ := hK
  have h2 : (2 : Int) < 2 ^ j := by
    have : j = 2 + (j - 2) := by omega
    rw [this, Int.pow_add]
    have := p2pos (j - 2)
    omega
  rw [← round_more h2]
  have hB := scB_pos (D := 1) (x := x) (by omega)
  have pt := p2pos t
  refine round_cross (Int.mul_pos hB (by omega)) (scB_pos (by omega)) ?_
  unfold scA scB
  rw [Int.one_mul, Int.one_mul, e2_zero (k := -(0 + 1074)) (by omega), Int.mul_one, show (0 + 1074 : Int) = 1074 by omega]
  have s1 : e2 (x + 1074) * 2 ^ j = 2 ^ 2400 := by
    rw [← e2_nat j, ← e2_nat 2400]
    by_cases h : 0 ≤ x + 1074
    · rw [← e2_add h (by omega)]; congr 1; omega
    · rw [e2_zero (k := x + 1074) (by omega), Int.one_mul]; congr 1; omega
  have s2 : e2 1074 * (e2 (-(x + 1074)) * 2 ^ j) = 2 ^ t := by
    rw [← e2_nat j, ← e2_nat t]
    by_cases h : 0 ≤ x + 1074
    · rw [e2_zero (k := -(x + 1074)) (by omega), Int.one_mul, ← e2_add (by omega) (by omega)]; congr 1; omega
    · rw [← e2_add (by omega) (by omega), ← e2_add (by omega) (by omega)]; congr 1; omega
  rw [Int.mul_assoc M, s1, ← s2, Int.mul_assoc]
/-- a Scale in its variable -/
def Sc8 (w : World) (g : Nat) (x y z u : Value) : Prop := w.heap[g]? = some (.cells #[x, y, z, u] 24)
section
variable {w w' : World} {g : Nat} {x y z u : Value}
theorem Sc8.lt (h : Sc8 w g x y z u) : g < w.heap.size := by
  by_cases hlt : g < w.heap.size
  · exact hlt
  · unfold Sc8 at h; simp [Array.getElem?_eq_none (Nat.le_of_not_lt hlt)] at h
theorem Sc8.later (h : Sc8 w g x y z u) (hb : Below w.heap.size w w') : Sc8 w' g x y z u := by
  have := h.lt
  unfold Sc8
  rw [hb.block g this]; exact h
theorem Sc8.cells (h : Sc8 w g x y z u) : w.cell? ⟨g, 0, none⟩ = some x ∧ w.cell? ⟨g, 1, none⟩ = some y ∧ w.cell? ⟨g, 2, none⟩ = some z ∧ w.cell? ⟨g, 3, none⟩ = some u := by
  unfold Sc8 at h
  simp [World.cell?, h]
theorem sc8_new (w : World) (x y z u : Value) : Sc8 (w.alloc (.cells #[x, y, z, u] 24)) w.heap.size x y z u := heap_alloc_new _ _
end
set_option maxHeartbeats 6400000 in
set_option maxRecDepth 100000 in
theorem sticky_walk {w : World} {s z : Bool} {a : Option Addr} {n c : Nat} {xs : List Int} {x : Int} (ha : RowC w a n c xs) (hx : Ws xs) (G : -9223372036854775808 ≤ x ∧ x ≤ 9223372036854775807) (hG : GrVar w) :
    Calls Tryd.prog 4 #[.agg #[.bool s, .slice a n c, .int .i64 x, .bool z]] w fun e w' => e = .returned (.bool true) ∧ Below w.heap.size w w' := by
  have t0 := sc8_new w (.bool s) (.slice a n c) (.int .i64 x) (.bool z)
  have hb0 := alloc_below (w := w) (.cells #[.bool s, .slice a n c, .int .i64 x, .bool z] 24)
  obtain ⟨w0, hw0⟩ : ∃ w0, w0 = w.alloc (.cells #[.bool s, .slice a n c, .int .i64 x, .bool z] 24) := ⟨_, rfl⟩
  rw [← hw0] at t0 hb0
  have r0 := ha.later hb0
  have G0 := hG.later hb0
  have hnm : n ≤ maxLen := Nat.le_trans ha.2.1 ha.2.2
  obtain ⟨x0, x1⟩ := G
  clear ha hG
  obtain ⟨g, hg⟩ : ∃ g, g = w.heap.size := ⟨_, rfl⟩
  have HG : Hid (w.heap.size = g) := hg.symm
  rw [← hg] at t0
  have HB0 : Below w.heap.size w w0 := hb0
  have hfx := fixed_any G0
  obtain ⟨X, hX⟩ : ∃ X, X = x.tmod 1201 := ⟨_, rfl⟩
  have hXb : -1200 ≤ X ∧ X ≤ 1200 := by
    rw [hX]
    have := Int.lt_tmod_of_pos x (show (0 : Int) < 1201 by omega)
    have := Int.tmod_lt_of_pos x (show (0 : Int) < 1201 by omega)
    omega
  have rX : x.tmod 1201 = X := hX.symm
  clear hX
  obtain ⟨X0, X1⟩ := hXb
  go_enter Tryd.func4, Tryd.ntmps4
  go_wp2_with fail
  rw [← hw0, ← hg]
  refine hfx.mono ?_
  rintro e w1 ⟨rfl, hb1⟩
  have t1 := t0.later hb1
  have G1 := G0.later hb1
  have HB1 := HB0.trans (hb1.mono HB0.size)
  obtain ⟨p0, p1, p2, p3⟩ := t1.cells
  have hbd := bounded7_any (cap := c) (r0.later hb1).1 hnm 10 (by omega)
  clear hfx hb0 hb1 hw0 hg t0 r0 G0
  go_wp2_with fail
  refine hbd.mono ?_
  rintro e w2 ⟨v, rfl, ho, hb2⟩
  obtain ⟨ma, mc, rfl, rm⟩ := ho.readsC
  have hws := hx.take 10
  have hml : (xs.take 10).length ≤ 10 := by rw [List.length_take]; omega
  generalize xs.take 10 = ms at *
  obtain ⟨mn, hmn⟩ : ∃ mn, ms.length = mn := ⟨_, rfl⟩
  rw [hmn] at rm hml ⊢
  have nmm : Nm ms (num ms) := ⟨hws, rfl, by omega⟩
  have lM : Lt (num ms) 10 := nmm.lt (by omega)
  have HM : Hid (ms.length = mn) := hmn
  clear hmn hbd ho hx
  generalize num ms = M at *
  have t2 := t1.later hb2
  have G2 := G1.later hb2
  have HB2 := HB1.trans (hb2.mono HB1.size)
  clear p0 p1 p2 p3 t1 G1
  obtain ⟨p0, p1, p2, p3⟩ := t2.cells
  have lS : Lt (M * 2 ^ 2400) 48 := lM.pow2.mono (by omega)
  have hS := shlQ rm nmm 2400 (by omega) lS (by omega)
  have nc : ((2400 : Nat) : Int) = 2400 := rfl
  rw [nc] at hS
  clear nc
  obtain ⟨MS, hMS⟩ : ∃ MS, MS = M * 2 ^ 2400 := ⟨_, rfl⟩
  rw [← hMS] at hS lS
  have HMS : Hid (M * 2 ^ 2400 = MS) := hMS.symm
  clear hMS
  obtain ⟨tn, htn⟩ : ∃ tn : Nat, 2400 - X = (tn : Int) := ⟨(2400 - X).toNat, by omega⟩
  go_wp2_with fail
  refine hS.mono ?_
  rintro e w3 ⟨la, ln, lc, ll, rfl, r3, nm3, E3, hb3⟩
  have hal3 := alloc_below (w := w3) (.cells #[.int .u64 1] 26)
  have one3 := rowC_one w3 1 26
  have hA := addQ (r3.later hal3) one3 nm3 (Nm.one (by omega)) (lS.add (Lt.word (x := 1) (by omega))) (by omega)
  have HB3 := (HB2.trans (hb3.mono HB2.size)).trans (hal3.mono (Nat.le_trans HB2.size hb3.size))
  have t3 := (t2.later hb3).later hal3
  have G3 := (G2.later hb3).later hal3
  have m3 := (rm.later hb3).later hal3
  clear hS r3 nm3 one3 hal3 hb3 p0 p1 p2 p3 t2 G2 rm E3 HB2
  generalize hw9 : w3.alloc (.cells #[.int .u64 1] 26) = w9 at hA HB3 t3 G3 m3
  obtain ⟨p0, p1, p2, p3⟩ := t3.cells
  go_wp2_with fail
  clear hw9
  refine hA.mono ?_
  rintro e w4 ⟨ba, bn, bc, bl, rfl, r4, nm4, E4, hb4⟩
  have hal4 := alloc_below (w := w4) (.cells #[.int .u64 1] 26)
  have one4 := rowC_one w4 1 26
  have lD : Lt (1 * 2 ^ tn) 58 := ((Lt.word (x := 1) (by omega)).pow2 (t := tn)).mono (by omega)
  have hD := shlQ one4 (Nm.one (by omega)) tn (by omega) lD (by omega)
  have HB4 := (HB3.trans (hb4.mono HB3.size)).trans (hal4.mono (Nat.le_trans HB3.size hb4.size))
  have t4 := (t3.later hb4).later hal4
  have G4 := (G3.later hb4).later hal4
  have m4 := (m3.later hb4).later hal4
  have L4 := r4.later hal4
  clear hA r4 one4 hal4 hb4 p0 p1 p2 p3 t3 G3 m3 HB3
  generalize hw9 : w4.alloc (.cells #[.int .u64 1] 26) = w9 at hD HB4 t4 G4 m4 L4
  obtain ⟨p0, p1, p2, p3⟩ := t4.cells
  obtain ⟨DD, hDD⟩ : ∃ DD, DD = 1 * (2 : Int) ^ tn := ⟨_, rfl⟩
  rw [← hDD] at hD lD
  have pD : 0 < DD := by rw [hDD, Int.one_mul]; exact p2pos tn
  have HF : Hid (∀ mode b e, RoundIs (scA M X) (scB 1 X) true s mode b e ↔ RoundIs (scA (MS + 1) 0) (scB DD 0) false s mode b e) := fun mode b e => by
    rw [hDD, ← HMS.out]
    exact sticky_is X0 X1 htn
  clear hDD HMS
  go_wp2_with fail
  clear hw9
  refine hD.mono ?_
  rintro e w5 ⟨da, dn, dc, dl, rfl, r5, nm5, E5, hb5⟩
  have HB5 := HB4.trans (hb5.mono HB4.size)
  have t5 := t4.later hb5
  have G5 := G4.later hb5
  have m5 := m4.later hb5
  have L5 := L4.later hb5
  have hbl := (lS.add (Lt.word (x := 1) (by omega))).len
  rw [← E4.out, L5.1.1] at hbl
  have hdl := lD.len
  rw [← E5.out, r5.1.1] at hdl
  clear hD hb5 p0 p1 p2 p3 t4 G4 m4 L4 HB4 E4 E5
  obtain ⟨p0, p1, p2, p3⟩ := t5.cells
  go_wp2_with fail
  refine (num7_same 0 w5).mono ?_
  rintro e w6 ⟨rfl, rfl⟩
  go_wp2_with fail
  refine (num7_same 0 w5).mono ?_
  rintro e w6 ⟨rfl, rfl⟩
  go_wp2_with fail
  refine (num7_same 0 w5).mono ?_
  rintro e w6 ⟨rfl, rfl⟩
  go_wp2
  go_loopw [10] (fun mv wr => ∃ m : Nat, mv = .int .i64 m ∧ m ≤ 5 ∧ Below w5.heap.size w5 wr) (fun mv _ => 5 - (intOf mv).toNat)
  case atStart => exact ⟨0, rfl, by omega, Below.refl _ _⟩
  case round =>
    obtain ⟨m, rfl, hm, hnx⟩ := hrel
    clear p0 p1 p2 p3
    have t6 := t5.later hnx
    have G6 := G5.later hnx
    have m6 := m5.later hnx
    have L6 := L5.later hnx
    have D6 := r5.later hnx
    have HB6 := HB5.trans (hnx.mono HB5.size)
    obtain ⟨p0, p1, p2, p3⟩ := t6.cells
    by_cases hm4 : m ≤ 4
    · have hS := scaled_go (x := X) (mode := (m : Int)) (neg := s) (more := true) m6 nmm.ws (by omega) (by omega) (by omega) (by omega) (by omega) G6
      rw [nmm.num] at hS
      have hR := HF.out (m : Int)
      have hBp := scB_pos (D := 1) (x := X) (by omega)
      go_wp2_with fail
      refine hS.mono ?_
      rintro e w7 ⟨v1, E1, rfl, A1, _, hb7⟩
      have hQ := quotient_any (mode := (m : Int)) (neg := s) (L6.later hb7) (D6.later hb7) nm4.ws nm5.ws (by omega) (by omega) (by omega) (by omega) (by rw [nm5.num]; exact pD) (G6.later hb7)
      rw [nm4.num, nm5.num] at hQ
      clear p0 p1 p2 p3 hS
      obtain ⟨p0, p1, p2, p3⟩ := (t6.later hb7).cells
      go_wp2_with fail
      refine hQ.mono ?_
      rintro e w8 ⟨v2, E2, rfl, A2, _, hb8⟩
      obtain ⟨rfl, rfl⟩ := roundIs_uniq hBp A1 ((hR v2 E2).mpr A2)
      have hb := (hnx.trans (hb7.mono hnx.size)).trans (hb8.mono (Nat.le_trans hnx.size hb7.size))
      clear hQ p0 p1 p2 p3 hb7 hb8 A1 A2 hR t6 G6 m6 L6 D6 HB6 hnx hBp
      go_wp2_with fail
      refine (num7_same E1 w8).mono ?_
      rintro e w9 ⟨rfl, rfl⟩
      go_wp2_with fail
      refine (num7_same E1 w8).mono ?_
      rintro e w9 ⟨rfl, rfl⟩
      go_wp2
      go_roundw
      case rel => exact ⟨m + 1, by go_num, by omega, hb⟩
      case measure => simp [intOf]; omega
    · clear t6 G6 m6 L6 D6 p0 p1 p2 p3
      go_wp2
      go_ret
      exact ⟨rfl, HB6⟩
end Go.Proofs.YtildkknpbpdnnaaDoor
