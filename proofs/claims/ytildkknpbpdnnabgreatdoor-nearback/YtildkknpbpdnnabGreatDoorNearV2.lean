/- plumblaw07: size, value, above. -/
import Derived.Test.YtildkknpbpdnnabGreatDoorNearV
namespace Go.Proofs.YtildkknpbpdnnabGreatDoor
open Go.ChangeShapes Go.WideShapes Go.ChangeAt Go.RowKit
open Na Ar
set_option linter.unusedVariables false
theorem mkR_abs {s : Bool} {A B : Int} (hA : 0 ≤ A) (hB : 0 < B) : ((mkR s A B).num.natAbs = (mkR false A B).num.natAbs) ∧ (mkR s A B).den = (mkR false A B).den ∧ ¬ (mkR false A B).num < 0 := by
  have h0 : ¬ (mkR false A B).num < 0 := by
    intro h
    have := mkR_cross false hA hB
    have p : 0 ≤ sg false A * ((mkR false A B).den : Int) := Int.mul_nonneg (by unfold sg; simp; omega) (by omega)
    have : (mkR false A B).num * B < 0 := Int.mul_neg_of_neg_of_pos h hB
    omega
  cases s
  · exact ⟨rfl, rfl, h0⟩
  · have e : mkR true A B = -(mkR false A B) := by
      unfold mkR sg
      simp [Rat.neg_mkRat]
    rw [e]
    exact ⟨by rw [Rat.neg_num]; omega, by rw [Rat.neg_den], h0⟩
section
variable {w : World} {s1 : Bool} {a1 b1 : Option Addr} {n1 c1 m1 d1 : Nat} {k : Nat}
theorem Rt.size7 {s : Bool} {A B : Int} (hA : 0 ≤ A) (hB : 0 < B) (h : Rt w s1 a1 n1 c1 b1 m1 d1 (mkR s A B)) : Rt w false a1 n1 c1 b1 m1 d1 (mkR false A B) := by
  obtain ⟨e1, e2, e3⟩ := mkR_abs (s := s) hA hB
  refine ⟨(decide_eq_false e3).symm, ?_, ?_⟩
  · have := h.nu; rw [e1] at this; exact this
  · have := h.de; rw [e2] at this; exact this
/-- a pattern's number -/
def valR (b : Int) : Rat := mkR (spS b) (spM b * e2 (spX b)) (e2 (-(spX b)))
theorem valR_num {b : Int} (h : U b) (hf : ef b ≠ 2047) : valR b = mkR (spS b) (numW b) (e2 1074) := by
  obtain ⟨p, e1, e2', e3, e4, e5, e6, e7⟩ := num_parts h hf
  unfold valR
  have hx : -1074 ≤ spX b := by omega
  rw [mk_eq (Int.mul_nonneg e3 (Int.le_of_lt (e2_pos _))) (e2_pos _) (by rw [e7]; exact Int.mul_nonneg e3 (Int.le_of_lt (p2pos _))) (e2_pos _)]
  have key : spM b * e2 (spX b) * e2 1074 = numW b * e2 (-(spX b)) := by
    rw [e7, ← e2_nat p, ← e1]
    by_cases hx0 : 0 ≤ spX b
    · rw [e2_zero (k := -(spX b)) (by omega), Int.mul_one, Int.mul_assoc, ← e2_add hx0 (by omega)]
    · rw [e2_zero (k := spX b) (by omega), Int.mul_one, Int.mul_assoc, ← e2_add (by omega) (by omega)]
      congr 2; omega
  have sgm : ∀ s x y, sg s x * y = sg s (x * y) := fun s x y => by unfold sg; split <;> simp [Int.neg_mul]
  rw [sgm, sgm, key]
theorem value_size {b : Int} (h : U b) (hf : ef b ≠ 2047) : Sz (valR b) 20 := by
  obtain ⟨p, e1, e2', e3, e4, e5, e6, e7⟩ := num_parts h hf
  unfold valR
  have l1 : Lt (spM b * e2 (spX b)) 20 := ((Lt.word (x := spM b) ⟨e3, by omega⟩).pow2 (t := (spX b).toNat)).mono (by omega)
  have l2 : Lt (e2 (-(spX b))) 20 := by
    have := (Lt.word (x := 1) (by omega)).pow2 (t := (-(spX b)).toNat)
    rw [Int.one_mul] at this
    exact this.mono (by omega)
  exact Sz.mkR l1 l2 (e2_pos _)
set_option maxHeartbeats 6400000 in
set_option maxRecDepth 100000 in
theorem value7_any {b : Int} (hu : U b) (hf : ef b ≠ 2047) (w : World) :
    Calls Tryz.prog 7 #[.int .u64 b] w fun e w' => ∃ s v1 v2, e = .returned (.tuple #[.agg #[.bool s, v1, v2], .bool true]) ∧ RtO w' w.heap.size s v1 v2 (valR b) ∧ Sz (valR b) 20 ∧ Below w.heap.size w w' := by
  have hsz := value_size hu hf
  obtain ⟨p, e1, e2', e3, e4, e5, e6, e7⟩ := num_parts hu hf
  have hE : fiE b = 0 := by unfold fiE; rw [if_neg hf]
  have hSp := fun w => f6Split_any hu w
  rw [hE] at hSp
  have t0 := st_new w (.bool false) (.slice none 0 0) (.slice none 0 0) 25
  have hb0 := alloc_below (w := w) (.cells #[.bool false, .slice none 0 0, .slice none 0 0] 25)
  obtain ⟨w0, hw0⟩ : ∃ w0, w0 = w.alloc (.cells #[.bool false, .slice none 0 0, .slice none 0 0] 25) := ⟨_, rfl⟩
  rw [← hw0] at t0 hb0
  have e0 : w.heap.size + 1 ≤ w0.heap.size := by rw [hw0]; simp
  obtain ⟨g, hg⟩ : ∃ g, g = w.heap.size := ⟨_, rfl⟩
  have HG : Hid (w.heap.size = g) := hg.symm
  have HB0 : Below w.heap.size w w0 := hb0
  rw [← hg] at t0 e0
  have hV : valR b = mkR (spS b) (spM b * e2 (spX b)) (e2 (-(spX b))) := rfl
  have hx0 : -1074 ≤ spX b ∧ spX b ≤ 971 := by omega
  generalize valR b = V at *
  generalize spS b = sS at *
  generalize spM b = sM at *
  generalize spX b = sX at *
  have hmU : U sM := ⟨e3, by omega⟩
  clear hE e1 e2' e5 e6 e7 hf hb0
  by_cases hx : 0 ≤ sX
  · obtain ⟨t, ht⟩ : ∃ t : Nat, sX = (t : Int) := ⟨sX.toNat, by omega⟩
    subst ht
    have hW := whole7_any (neg := sS) hmU t (by omega) w0
    have HV : Hid (mkR sS (sM * 2 ^ t) 1 = V) := by show _ = _; rw [hV, e2_nat, e2_neg_nat]
    rw [HV.out] at hW
    clear hV
    go_enter Tryz.func7, Tryz.ntmps7
    go_wp2_with fail
    refine (hSp _).mono ?_
    rintro e w1 ⟨rfl, rfl⟩
    rw [← hw0, ← hg]
    clear hSp hw0 hg
    go_wp2_with fail
    refine (num7_same 0 w0).mono ?_
    rintro e w1 ⟨rfl, rfl⟩
    go_wp2_with fail
    refine hW.mono ?_
    rintro e w1 ⟨s9, v1, v2, rfl, hR, _, hb1⟩
    obtain ⟨a9, n9, c9, b9, m9, d9, rfl, rfl, _⟩ := hR.opens
    have t1 := t0.later hb1
    have HB1 := HB0.trans (hb1.mono HB0.size)
    obtain ⟨x0, x1, x2⟩ := t1.cells
    obtain ⟨z0, z1, z2⟩ := t1.frozen
    have s1' := hb1.size
    clear hW t0 HB0
    go_wp2
    have i9 := in3 w1 g (.bool s9) (.slice a9 n9 c9) (.slice b9 m9 d9)
    have T9 := t1.set (.bool s9) (.slice a9 n9 c9) (.slice b9 m9 d9)
    have R9 := ((hR.lower (base' := g + 1) (by omega)).inn i9 (by omega)).lower (base' := w.heap.size) (by rw [HG.out]; omega)
    have B9 := below_in HB1 i9 (by rw [HG.out]; omega) (Nat.le_refl _)
    obtain ⟨j0, j1, j2⟩ := T9.cells
    refine bodyPost_ret (v := .tuple #[.agg #[.bool s9, .slice a9 n9 c9, .slice b9 m9 d9], .bool true]) (by simp [results, Tryz.results7, go_sem, j0, j1, j2]) rfl ?_
    exact ⟨_, _, _, rfl, R9, hsz, B9⟩
  · obtain ⟨t, ht⟩ : ∃ t : Nat, sX = -(t : Int) := ⟨(-sX).toNat, by omega⟩
    have hxe : -sX = (t : Int) := by omega
    have HV : Hid (mkR sS sM (1 * 2 ^ t) = V) := by show _ = _; rw [hV, ht, Int.neg_neg, e2_nat, e2_neg_nat, Int.mul_one, Int.one_mul]
    have hal := alloc_below (w := w0) (.cells #[.int .u64 1] 22)
    have one := rowC_one w0 1 22
    have e0q : w0.heap.size = g + 1 := by rw [hw0, hg]; simp
    rw [e0q] at one
    clear e0q hV ht
    have lD : Lt (1 * 2 ^ t) 20 := ((Lt.word (x := 1) (by omega)).pow2 (t := t)).mono (by omega)
    have hS := shlQ one (Nm.one (by omega)) t (by omega) lD (by omega)
    have pD : (0 : Int) < 1 * 2 ^ t := by rw [Int.one_mul]; exact p2pos t
    obtain ⟨DD, hDD⟩ : ∃ DD, DD = 1 * (2 : Int) ^ t := ⟨_, rfl⟩
    rw [← hDD] at hS lD pD HV
    clear hDD one
    go_enter Tryz.func7, Tryz.ntmps7
    go_wp2_with fail
    refine (hSp _).mono ?_
    rintro e w1 ⟨rfl, rfl⟩
    rw [← hw0, ← hg]
    clear hSp
    go_wp2_with fail
    rw [← hw0]
    refine (num7_same 0 w0).mono ?_
    rintro e w1 ⟨rfl, rfl⟩
    go_wp2_with fail
    rw [← hw0, ← hg]
    clear hw0 hg
    refine hS.mono ?_
    rintro e w1 ⟨xa, xn, xc, xl, rfl, rx, nmx, EX, hb1⟩
    have hxn := lD.len
    rw [← EX.out, rx.1.1] at hxn
    have b01 := hal.trans (hb1.mono hal.size)
    have t1 := t0.later b01
    have HB1 := HB0.trans (b01.mono HB0.size)
    have s1' := b01.size
    have hal1 := alloc_below (w := w1) (.cells #[.int .u64 sM] 22)
    have one1 := rowC_one w1 sM 22
    have hN := rNew_ok (neg := sS) one1 (rx.later hal1) (Nm.one hmU) nmx pD ((Lt.word hmU).mono (by omega)) (lD.mono (by omega)) (by omega) (by omega)
    rw [HV.out] at hN
    have t2 := t1.later hal1
    have HB2 := HB1.trans (hal1.mono HB1.size)
    have s2' := hal1.size
    clear hS hal hb1 b01 t0 t1 HB0 HB1 one1 rx nmx EX hal1
    go_wp2_with fail
    generalize w1.alloc (.cells #[.int .u64 sM] 22) = w2 at *
    refine hN.mono ?_
    rintro e w3 ⟨s9, v1, v2, rfl, hR, hb3⟩
    obtain ⟨a9, n9, c9, b9, m9, d9, rfl, rfl, hRt⟩ := hR.opens
    have hal3 := alloc_below (w := w3) (.cells #[.bool s9, .slice a9 n9 c9, .slice b9 m9 d9] 25)
    have T3 := st_new w3 (.bool s9) (.slice a9 n9 c9) (.slice b9 m9 d9) 25
    have b23 := hb3.trans (hal3.mono hb3.size)
    have t3 := t2.later b23
    have HB3 := HB2.trans (b23.mono HB2.size)
    have s3' := b23.size
    have hR4 := (hR.later hal3).lower (base' := g + 1) (by omega)
    have s4 := hb3.size
    obtain ⟨o, ho⟩ : ∃ o, o = w3.heap.size := ⟨_, rfl⟩
    rw [← ho] at T3 s4
    have ng1 : ¬ g = o := by have := e0; omega
    have ng2 : ¬ o = g := by omega
    have ho' : w3.heap.size = o := ho.symm
    clear hN t2 HB2 hb3 hR hal3 b23 hRt ho
    generalize hw4 : w3.alloc (.cells #[.bool s9, .slice a9 n9 c9, .slice b9 m9 d9] 25) = w4 at *
    obtain ⟨x0, x1, x2⟩ := t3.cells
    obtain ⟨z0, z1, z2⟩ := t3.frozen
    obtain ⟨y0, y1, y2⟩ := T3.cells
    go_wp2
    clear hw4 ho'
    go_region_held3 (fun w' => w'.cell? ⟨o, 0, none⟩ = some (.bool s9) ∧ w'.cell? ⟨o, 1, none⟩ = some (.slice a9 n9 c9) ∧ w'.cell? ⟨o, 2, none⟩ = some (.slice b9 m9 d9)) (go_keep) ((go_at_call 10; refine (num7_same 0 _).mono ?_; rintro e wD ⟨rfl, rfl⟩))
    go_wp2
    have hd9 := fun (W : World) => below_drewN (Below.refl W.heap.size W) 1
    have i9 := in3 w4 g (.bool s9) (.slice a9 n9 c9) (.slice b9 m9 d9)
    have T9 := (t3.set (.bool s9) (.slice a9 n9 c9) (.slice b9 m9 d9))
    have R9 := ((hR4.inn i9 (by omega)).later (hd9 _)).lower (base' := w.heap.size) (by rw [HG.out]; omega)
    have B8 := below_in HB3 i9 (by rw [HG.out]; omega) (Nat.le_refl _)
    have B9 := B8.trans ((hd9 _).mono B8.size)
    obtain ⟨j0, j1, j2⟩ := T9.cells
    refine bodyPost_ret (v := .tuple #[.agg #[.bool s9, .slice a9 n9 c9, .slice b9 m9 d9], .bool true]) (by simp [results, Tryz.results7, go_sem, j0, j1, j2]) rfl ?_
    exact ⟨_, _, _, rfl, R9, hsz, B9⟩
theorem spS_low {b : Int} (h0 : 0 ≤ b) (h1 : b ≤ mostP) : spS b = false := by
  unfold mostP at h1
  unfold spS
  split
  · rfl
  · exact decide_eq_false (by omega)
/-- the number of a pattern without a sign -/
theorem valR_low {b : Int} (h0 : 0 ≤ b) (h1 : b ≤ mostP) : valR b = mkR false (numW b) (e2 1074) := by
  obtain ⟨u, f, _⟩ := size_fin h0 h1
  rw [valR_num u f, spS_low h0 h1]
theorem nxt_most : nxtN mostP = e2 2098 := by
  obtain ⟨m1, m2⟩ := most_nums
  unfold nxtN
  rw [m1, m2]
  have e : e2 2098 = e2 53 * e2 2045 := by rw [← e2_add (by omega) (by omega)]; rfl
  rw [e, e2_53]
  generalize e2 2045 = P
  omega
theorem top_is7 : mkR false (1 * 2 ^ 1024) 1 = mkR false (nxtN mostP) (e2 1074) := by
  rw [nxt_most, mk_eq (Int.mul_nonneg (by omega) (Int.le_of_lt (p2pos _))) (by omega) (Int.le_of_lt (e2_pos _)) (e2_pos _)]
  have : (1 * (2 : Int) ^ 1024) * e2 1074 = e2 2098 * 1 := by
    rw [Int.one_mul, Int.mul_one, ← e2_nat 1024, ← e2_add (by omega) (by omega)]; rfl
  unfold sg
  simp only [Bool.false_eq_true, if_false]
  exact this
end
end Go.Proofs.YtildkknpbpdnnabGreatDoor
