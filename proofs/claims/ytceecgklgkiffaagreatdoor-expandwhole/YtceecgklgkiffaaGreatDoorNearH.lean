/- package near: Value; what no number is; the statements' value of such a pattern; a pattern's own number, rounded. -/
import Derived.Test.YtceecgklgkiffaaGreatDoorNearE
namespace Go.Proofs.YtceecgklgkiffaaGreatDoor
open Go.ChangeShapes Go.WideShapes Go.ChangeAt Go.RowKit
open Na Ar
set_option linter.unusedVariables false
set_option maxHeartbeats 3200000 in
set_option maxRecDepth 100000 in
theorem nearValue_fin {b : Int} (hu : U b) (hf : ef b ≠ 2047) (w : World) :
    Calls Tryz.prog 24 #[.int .u64 b] w fun e w' => ∃ s v1 v2, e = .returned (.tuple #[.agg #[.bool s, v1, v2], .int .i64 0]) ∧ RtO w' w.heap.size s v1 v2 (valR b) ∧ Below w.heap.size w w' := by
  obtain ⟨p, e1, e2', e3, e4, e5, e6, e7⟩ := num_parts hu hf
  have hE : fiE b = 0 := by unfold fiE; rw [if_neg hf]
  have hSp := fun w => f6Split_any hu w
  rw [hE] at hSp
  have hBn := fun w => binary_any (neg := spS b) (m := spM b) (x := spX b) ⟨e3, by omega⟩ (by omega) (by omega) w
  rw [← binQ_val] at hBn
  have t0 := st_new w (.bool false) (.slice none 0 0) (.slice none 0 0) 50
  have HB0 := alloc_below (w := w) (.cells #[.bool false, .slice none 0 0, .slice none 0 0] 50)
  have e0 : w.heap.size + 1 ≤ (w.alloc (.cells #[.bool false, .slice none 0 0, .slice none 0 0] 50)).heap.size := by simp
  obtain ⟨g, hg⟩ : ∃ g, g = w.heap.size := ⟨_, rfl⟩
  have HG : Hid (w.heap.size = g) := hg.symm
  rw [← hg] at t0 e0
  generalize valR b = V at *
  generalize spS b = sS at *
  generalize spM b = sM at *
  generalize spX b = sX at *
  clear hE e1 e2' e3 e4 e5 e6 e7 hf
  go_enter Tryz.func24, Tryz.ntmps24
  go_wp2_with fail
  rw [← hg]
  generalize w.alloc (.cells #[.bool false, .slice none 0 0, .slice none 0 0] 50) = w0 at *
  clear hg
  refine (hSp _).mono ?_
  rintro e w1 ⟨rfl, rfl⟩
  go_wp2_with fail
  refine (hBn _).mono ?_
  rintro e w1 ⟨s9, v1, v2, rfl, hR, hb1⟩
  obtain ⟨a9, n9, c9, b9, m9, d9, rfl, rfl, _⟩ := hR.opens
  have t1 := t0.later hb1
  have HB1 := HB0.trans (hb1.mono HB0.size)
  obtain ⟨x0, x1, x2⟩ := t1.cells
  obtain ⟨z0, z1, z2⟩ := t1.frozen
  clear hSp hBn t0 HB0
  go_wp2
  have i9 := in3 w1 g (.bool s9) (.slice a9 n9 c9) (.slice b9 m9 d9)
  have T9 := t1.set (.bool s9) (.slice a9 n9 c9) (.slice b9 m9 d9)
  have R9 := ((hR.lower (base' := g + 1) (by omega)).inn i9 (by omega)).lower (base' := w.heap.size) (by rw [HG.out]; omega)
  have B9 := below_in HB1 i9 (by rw [HG.out]; omega) (Nat.le_refl _)
  obtain ⟨j0, j1, j2⟩ := T9.cells
  refine bodyPost_ret (v := .tuple #[.agg #[.bool s9, .slice a9 n9 c9, .slice b9 m9 d9], .int .i64 0]) (by simp [results, Tryz.results24, go_sem, j0, j1, j2]) rfl ?_
  exact ⟨_, _, _, rfl, R9, B9⟩
set_option maxHeartbeats 3200000 in
set_option maxRecDepth 100000 in
theorem nearValue_inf {b : Int} (hu : U b) (hf : ef b = 2047) (w : World) :
    Calls Tryz.prog 24 #[.int .u64 b] w fun e w' => e = .returned (.tuple #[.agg #[.bool false, .slice none 0 0, .slice none 0 0], .int .i64 60]) ∧ Below w.heap.size w w' := by
  have hE : fiE b = 60 := by unfold fiE; rw [if_pos hf]
  have hSp := fun w => f6Split_any hu w
  rw [hE] at hSp
  have HB0 := alloc_below (w := w) (.cells #[.bool false, .slice none 0 0, .slice none 0 0] 50)
  generalize spS b = sS at *
  generalize spM b = sM at *
  generalize spX b = sX at *
  clear hE hf
  go_enter Tryz.func24, Tryz.ntmps24
  go_wp2_with fail
  refine (hSp _).mono ?_
  rintro e w1 ⟨rfl, rfl⟩
  go_wp2
  refine bodyPost_ret (v := .tuple #[.agg #[.bool false, .slice none 0 0, .slice none 0 0], .int .i64 60]) (by simp [results, Tryz.results24, go_sem]) rfl ?_
  exact ⟨rfl, HB0⟩
set_option maxHeartbeats 3200000 in
set_option maxRecDepth 100000 in
theorem nearMid_inf {b : Int} (hu : U b) (hf : ef b = 2047) (w : World) :
    Calls Tryz.prog 134 #[.int .u64 b] w fun e w' => e = .returned (.tuple #[.agg #[.bool false, .slice none 0 0, .slice none 0 0], .int .i64 60]) ∧ Below w.heap.size w w' := by
  have hE : nxE b = 60 := by unfold nxE; rw [if_pos hf]
  have hN := fun w => f6Next_any hu w
  rw [hE] at hN
  have HB0 := alloc_below (w := w) (.cells #[.bool false, .slice none 0 0, .slice none 0 0] 50)
  generalize nxW b = X at *
  clear hE hf
  go_enter Tryz.func134, Tryz.ntmps134
  go_wp2_with fail
  refine (hN _).mono ?_
  rintro e w1 ⟨rfl, rfl⟩
  go_wp2
  refine bodyPost_ret (v := .tuple #[.agg #[.bool false, .slice none 0 0, .slice none 0 0], .int .i64 60]) (by simp [results, Tryz.results134, go_sem]) rfl ?_
  exact ⟨rfl, HB0⟩
namespace Na
/-- a pattern's own number is rounded to it, in every mode -/
theorem round_self {A B d mode : Int} {neg : Bool} (hB : 0 < B) (h0 : 0 ≤ d) (h1 : d ≤ mostP) (h : A = numW d * B) : RoundIs A B false neg mode (d + sgB neg) 0 := by
  refine ⟨d, ⟨h0, h1, by omega, ?_⟩, Or.inl ⟨Or.inl ?_, rfl, rfl⟩⟩
  · by_cases q : d = mostP
    · exact Or.inl q
    · right
      rw [h, num_succ h0 (by omega)]
      exact Int.mul_lt_mul_of_pos_right (nxt_gt _) hB
  · unfold agn
    rw [h, if_neg (by omega), if_pos rfl, if_neg (by simp)]
/-- the pattern that a pattern's number is rounded to: of -0 that is 0 -/
def wantB (b : Int) : Int := if b = 9223372036854775808 then 0 else b
theorem zeros_odd {o : Int} (h : o % 2 = 1) (h0 : 0 < o) (t : Nat) : zerosN (o * 2 ^ t) = t := by
  obtain ⟨m, rfl⟩ : ∃ m : Nat, o = 2 * (m : Int) + 1 := ⟨(o / 2).toNat, by omega⟩
  unfold zerosN
  have e : (2 * (m : Int) + 1) * 2 ^ t = ((2 ^ t * (2 * m + 1) : Nat) : Int) := by
    rw [Int.natCast_mul, p2cast]
    generalize (2 : Int) ^ t = P
    rw [show ((2 * m + 1 : Nat) : Int) = 2 * (m : Int) + 1 by omega]
    exact Int.mul_comm _ _
  rw [e, Int.toNat_natCast, ctz_pow]
theorem bits_pow (t : Nat) : bitsN ((2 : Int) ^ t) = t + 1 := by
  have p := p2pos t
  unfold bitsN
  rw [if_neg (by omega), ← p2cast, Int.toNat_natCast, Nat.log2_two_pow]
theorem pat_parts {b : Int} (h : U b) (hf : ef b ≠ 2047) : b = sgB (spS b) + mg b := by
  unfold U at h
  unfold sgB spS mg
  rw [if_neg hf]
  by_cases q : 9223372036854775808 ≤ b
  · rw [if_pos (by simpa using q)]; omega
  · rw [if_neg (by simpa using q)]; omega
theorem val_parts {b : Int} (h : U b) (hf : ef b ≠ 2047) : ∃ (t1 t2 : Nat) (o : Int), zerosN ((valR b).num.natAbs : Int) = t1 ∧ ((valR b).num.natAbs : Int) / 2 ^ t1 = o ∧ U o ∧ zerosN ((valR b).den : Int) = t2 ∧ bitsN ((valR b).den : Int) = t2 + 1 ∧ t1 ≤ 2000 ∧ t2 ≤ 2000 ∧
    JoinIs (decide ((valR b).num < 0)) o ((t1 : Int) - t2) (wantB b) 0 := by
  obtain ⟨p, e1, e2', e3, e4, e5, e6, e7⟩ := num_parts h hf
  have pp := pat_parts h hf
  by_cases hz : spM b = 0
  · have q : valR b = ((0 : Int) : Rat) := by rw [binQ_val, hz, binQ_zero]
    have hm : mg b = 0 := by omega
    have hb : wantB b = 0 := by
      unfold wantB
      unfold mg at hm
      unfold U at h
      split <;> omega
    rw [q, hb]
    refine ⟨0, 0, 0, ?_, ?_, by unfold U; omega, ?_, ?_, by omega, by omega, Or.inl ⟨rfl, rfl, rfl⟩⟩
    · unfold zerosN ctz; rfl
    · rfl
    · unfold zerosN ctz; rfl
    · rfl
  · obtain ⟨K, o, hmo, ho2, ho0, hzn, hdv⟩ := two_form (M := spM b) (by omega)
    have hK : K ≤ 52 := by
      apply Decidable.byContradiction
      intro q
      have a : (2 : Int) ^ 53 ≤ 2 ^ K := p2mono (by omega)
      have b : 1 * 2 ^ K ≤ o * 2 ^ K := Int.mul_le_mul_of_nonneg_right (by omega) (Int.le_of_lt (p2pos K))
      rw [show (2 : Int) ^ 53 = 9007199254740992 by decide] at a
      omega
    have hol : o ≤ spM b := by
      have b : o * 1 ≤ o * 2 ^ K := Int.mul_le_mul_of_nonneg_left (by have := p2pos K; omega) (by omega)
      omega
    have q : valR b = binQ (spS b) o (spX b + K) := by rw [binQ_val, hmo]; exact binQ_move _ (by omega) K _
    obtain ⟨a1, a2, a3⟩ := binQ_odd ho2 ho0 (spS b) (spX b + K)
    rw [q, a1, a2, a3]
    have hw : wantB b = b := by
      unfold wantB
      rw [if_neg]
      intro r
      have : mg b = 0 := by rw [r]; rfl
      have : 0 ≤ (p : Int) * 4503599627370496 := by omega
      omega
    have p1 := p2pos (spX b + K).toNat
    refine ⟨(spX b + K).toNat, (-(spX b + K)).toNat, o, zeros_odd ho2 ho0 _, ?_, by unfold U; omega, ?_, bits_pow _, by omega, by omega, ?_⟩
    · exact Int.mul_ediv_cancel _ (by unfold e2 at *; omega)
    · have := zeros_odd (o := 1) (by omega) (by omega) (-(spX b + K)).toNat
      rw [Int.one_mul] at this
      exact this
    · rw [hw, show (((spX b + K).toNat : Int) - ((-(spX b + K)).toNat : Int)) = spX b + K by omega]
      refine joinR_ok (M := spM b) (X := spX b) (by omega) ⟨Or.inl ⟨by omega, ?_⟩, by omega, by omega, e4, ?_⟩ (by omega) (by omega)
      · rw [show spX b + K - spX b = (K : Int) by omega, e2_nat]; exact hmo
      · rcases e6 with e6 | e6
        · left; omega
        · right; exact e6
end Na
section
variable {w : World} {s : Bool} {a b' : Option Addr} {n c m d : Nat}
end
end Go.Proofs.YtceecgklgkiffaaGreatDoor
